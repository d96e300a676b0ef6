/- The reference's atom: all but a group. -/
import Derived.Test.YtkcbknfhckomcaaGreatDoorYBvG
import Derived.Test.YtkcbknfhckomcaaGreatDoorYBuE
import Derived.Test.YtkcbknfhckomcaaGreatDoorYBuG
import Derived.Test.YtkcbknfhckomcaaGreatDoorYScope
import Derived.Test.YtkcbknfhckomcaaGreatDoorYBrW
import Derived.Test.YtkcbknfhckomcaaGreatDoorYSetH
import Derived.Test.YtkcbknfhckomcaaGreatDoorYBuC
set_option linter.unusedVariables false
set_option linter.unusedSimpArgs false
set_option maxRecDepth 100000
set_option maxHeartbeats 40000000
namespace Go.Proofs.YtkcbknfhckomcaaGreatDoor
open Go.RowKit Go.Lib
theorem sltail_c (s : List UInt8) (p : Nat) (hp : p ≤ s.length) (W : World) : (Instr.slice 9 (.string ⟨s.toArray⟩) (some (.int .i64 (p : Int))) none none).run Tryz.prog W = .ok (.string ⟨(s.drop p).toArray⟩) W := by
 have hs : (⟨s.toArray⟩ : ByteArray).size = s.length := by simp [ByteArray.size]
 have e : (⟨s.toArray⟩ : ByteArray).extract (p : Int).toNat (⟨s.toArray⟩ : ByteArray).size = ⟨(s.drop p).toArray⟩ := by
  apply ByteArray.ext
  apply Array.ext'
  simp [ByteArray.data_extract, hs]
  exact List.take_of_length_le (by rw [List.length_drop]; omega)
 rw [run_slice_string_from_if (P := Tryz.prog) W 9 _ .i64 (p : Int) Tryz.underlying9, if_pos ⟨by omega, by rw [hs]; omega⟩, e]
theorem wpl_load_row {W : World} {b : Nat} {f : Nat → Bool} {ops : Array Oper} {rest : List Oper} {o : Oper} {c : Act} {Q : Exit → Act → World → Prop} {x : Operand} (h : Row W b f) (hg : o.guard = none) (ho : o.op = .load 66 x) (hx : c.eval x = .pointer (some ⟨b, 0, none⟩))
  (hK : wpList Tryz.prog ops Q rest (c.put o.dst (.agg (barr f))) W) : wpList Tryz.prog ops Q (o :: rest) c W := wpList_plain hg fun _ hK' => wp_load_row h ho hx (hK' _ _ hK)
theorem byNd_all : byNd (rg 0 255) = byNd (fun _ => true) := by
 unfold byNd
 have e : ∀ k, k < 4 → wd (rg 0 255) k = wd (fun _ => true) k := fun k hk => wd_congr hk (by decide +kernel)
 rw [e 0 (by omega), e 1 (by omega), e 2 (by omega), e 3 (by omega)]
theorem atom_start (p : Option Addr) (n c : Nat) (g : Int) (en : Nat → Bool) (xs : List Nd) (w : World) (hrow : RRow w 0 (.slice p n c) n xs) :
  ∃ b W0, b + 2 ≤ W0.heap.size ∧ Hid (ST W0 b (.slice p n c) g en 0 0) ∧ Hid (ST W0 (b + 1) (.slice none 0 0) 0 (fun _ => false) 0 0) ∧ Hid (Below b w W0) ∧ Hid (RRow W0 0 (.slice p n c) n xs) ∧ Hid (W0 = (w.alloc (.cells (sc (.slice p n c) g en 0 0) 69)).alloc (.cells (sc (.slice none 0 0) 0 (fun _ => false) 0 0) 69)) ∧ Hid (b = w.heap.size) := by
 obtain ⟨b, hb⟩ : ∃ b, b = w.heap.size := ⟨_, rfl⟩
 obtain ⟨W0, hW⟩ : ∃ W0, W0 = (w.alloc (.cells (sc (.slice p n c) g en 0 0) 69)).alloc (.cells (sc (.slice none 0 0) 0 (fun _ => false) 0 0) 69) := ⟨_, rfl⟩
 have s0 : b + 2 ≤ W0.heap.size := by rw [hW, hb]; simp
 have hS : ST W0 b (.slice p n c) g en 0 0 := by rw [hW, hb]; exact (ST.new w _ _ _ _ _).alloc _
 have hZ : ST W0 (b + 1) (.slice none 0 0) 0 (fun _ => false) 0 0 := by
  rw [hW, hb]
  have := ST.new (w.alloc (.cells (sc (.slice p n c) g en 0 0) 69)) (.slice none 0 0) 0 (fun _ => false) 0 0
  rwa [World.size_alloc] at this
 have hB0 : Below b w W0 := by rw [hW, hb]; exact ((Below.refl _ w).alloc (Nat.le_refl _) _).alloc (by simp) _
 have hX0 : RRow W0 0 (.slice p n c) n xs := by rw [hW]; exact row_alloc (row_alloc hrow _) _
 exact ⟨b, W0, s0, Lib.hid hS, Lib.hid hZ, Lib.hid hB0, Lib.hid hX0, Lib.hid hW, Lib.hid hb⟩
theorem atom_dot (s : List UInt8) (hs : s.length ≤ 100000) (row : BRd → Except Er BRd) (r : BRd) (hp : r.p < s.length) (hl : r.l.length ≤ 999998) (first : Bool) (hc : s[r.p]? = some 46) (p : Option Addr) (c : Nat) (w : World) (hrow : RRow w 0 (.slice p r.l.length c) r.l.length r.l) :
  Calls Tryz.prog 55 #[.string ⟨s.toArray⟩, .int .i64 (r.p : Int), .bool first, .agg (sc (.slice p r.l.length c) r.g r.en 0 0)] w (SOut w (atomU s row r first)) := by
 have hR : atomU s row r first = .ok ((r.to (r.p + 1)).pu (byNd fun _ => true)) := by unfold atomU; rw [hc]; rfl
 have hsz : (⟨s.toArray⟩ : ByteArray).size = s.length := by simp [ByteArray.size]
 obtain ⟨hz, hsz2⟩ := zero_of_info (P := Tryz.prog) infoSt
 rw [hR]
 have hR' : True := trivial
 obtain ⟨i, xs, g, en⟩ := r
 simp only at hp hl hrow hc ⊢
 obtain ⟨n, hn⟩ : ∃ n, n = xs.length := ⟨_, rfl⟩
 rw [← hn] at hl hrow ⊢
 obtain ⟨b, W0, s0, HS, HZ, HB0, HX0, HW, HB⟩ := atom_start p n c g en xs w hrow
 have HRW := Lib.hid hrow
 have HN := Lib.hid hn
 clear hrow hn hsz2 hR hR'
 generalize hC0 : sc (.slice none 0 0) 0 (fun _ => false) 0 0 = C0 at hz HW
 generalize hC1 : sc (.slice p n c) g en 0 0 = C1 at HW ⊢
 have ew1 : IntKind.i64.wrap ((i : Int) + 1) = (i : Int) + 1 := by simp [IntKind.wrap, IntKind.signed, IntKind.bits]; omega
 have ew2 : IntKind.i64.wrap ((i : Int) + 2) = (i : Int) + 2 := by simp [IntKind.wrap, IntKind.signed, IntKind.bits]; omega
 go_enter Tryz.func55, Tryz.ntmps55
 go_upto_region 1 with fail
 rw [← HW.out, ← HB.out]
 clear HW hz hC0
 subst hC1
 have x0 := fun W => ixm_c s i 46 hc W
 have hcl := fun w => rrange_c 0 255 (by omega) (by omega) w
 have hby := fun w (h : RRow w 0 (.slice p n c) n xs) => bytesU_c p n c g en 0 0 (rg 0 255) xs (by omega) w h
 rw [byNd_all] at hby
 unfold bv at hcl hby
 have HCL := Lib.hid hcl
 have HBY := Lib.hid hby
 clear hc hcl hby
 go_upto_region 3 with fail
 refine wp_region_noPanic ?_
 refine wp_region_held_drew (S := fun W => ST W b (.slice p n c) g en 0 0) (by kernel_rfl) ⟨HS.out.heap⟩ (fun _ => ?_)
 have HM := Lib.hid ((Below.refl W0.heap.size W0).drew)
 generalize W0.drew = W at *
 have HSW : Hid (ST W b (.slice p n c) g en 0 0) := Lib.hid (by assumption)
 refine wpAnyH_take (i := 0) (v := .agg (sc (.slice p n c) g en 0 0)) rfl (by kernel_rfl) (by kernel_rfl) (by kernel_rfl) (fun _ _ _ h => h) (Or.inl ⟨by kernel_rfl, fun w hSw => run_load_stv hSw rfl rfl⟩) HSW.out ?_
 try simp only [Act.put, laS]
 refine wpAnyH_take (i := 3) (v := ?_) rfl (by kernel_rfl) (by kernel_rfl) (by kernel_rfl) (fun _ _ _ h => h) (Or.inl ⟨by kernel_rfl, ?_⟩) HSW.out ?_
 rotate_left
 ·(intro w hSw; (try dsimp only at hSw); go_simp); (try with_reducible rfl)
 try simp only [Act.put, laS]
 refine wpAnyH_take (i := 4) (v := ?_) rfl (by kernel_rfl) (by kernel_rfl) (by kernel_rfl) (fun _ _ _ h => h) (Or.inl ⟨by kernel_rfl, ?_⟩) HSW.out ?_
 rotate_left
 ·(intro w hSw; (try dsimp only at hSw); go_simp); (try with_reducible rfl)
 try simp only [Act.put, laS]
 refine wpAnyH_ready (rs := [1]) (by kernel_rfl) (by simp) ?_
 refine AllReadyH.cons rfl (fun K hK => ?_) AllReadyH.nil
 go_simp
 refine (HCL.out _).mono ?_
 rintro e1 W1 ⟨rfl, hB1⟩
 have hsW := HM.out.size
 have HM1 := Lib.hid (HM.out.trans (hB1.mono (by omega)))
 clear hB1 hsW HCL HM HSW
 have HSW := Lib.hid (HS.out.below HM1.out (by omega))
 refine hK.out _ _ HSW.out (fun _ => ?_)
 clear hK K
 try simp only [Act.put, laS]
 refine wpAnyH_ready (rs := [2]) (by kernel_rfl) (by simp) ?_
 refine AllReadyH.cons rfl (fun K hK => ?_) AllReadyH.nil
 go_simp
 refine (HBY.out _ (row_below HX0.out HM1.out)).mono ?_
 unfold LOut
 rintro e2 W2 ⟨p9, c9, rfl, hr9, hB2⟩
 have hsW := HM1.out.size
 have HM2 := Lib.hid (HM1.out.trans (hB2.mono (by omega)))
 have H9 := Lib.hid (row_weak hr9 (show b + 2 ≤ _ by omega))
 clear hB2 hsW HBY HM1 HSW hr9
 have HSW := Lib.hid (HS.out.below HM2.out (by omega))
 refine hK.out _ _ HSW.out (fun _ => ?_)
 clear hK K
 try simp only [Act.put, laS]
 refine wpAnyH_ready (rs := [5]) (by kernel_rfl) (by simp) ?_
 refine AllReadyH.cons rfl (fun K hK => ?_) AllReadyH.nil
 have HZ2 := Lib.hid (HZ.out.below HM2.out (by omega))
 refine wp_store_st HZ2.out (v' := .slice p9 (n + 1) c9) rfl rfl rfl rfl ?_
 have HSX := Lib.hid (HSW.out.setRow_other (b' := b + 1) (by omega) (sc (.slice p9 (n + 1) c9) g en 0 0))
 refine hK.out _ _ HSX.out (fun _ => ?_)
 clear hK K
 have q := (HZ2.out.put (.slice p9 (n + 1) c9) g en 0 0).load
 have HQ := Lib.hid q
 have HR := Lib.hid (row_row H9.out (show b + 1 < b + 2 by omega) (sc (.slice p9 (n + 1) c9) g en 0 0))
 have HB2 := Lib.hid (Below.setRow (HB0.out.trans (HM2.out.mono (by omega : b ≤ W0.heap.size))) (show b ≤ b + 1 by omega) (sc (.slice p9 (n + 1) c9) g en 0 0))
 clear q HZ2 HM2 H9 HSW
 try simp only [Act.put, laS]
 refine wpAnyH_ready (rs := [6]) (by kernel_rfl) (by simp) ?_
 refine AllReadyH.cons rfl (fun K hK => ?_) AllReadyH.nil
 go_simp
 refine hK.out _ _ HSX.out (fun _ => ?_)
 clear hK K HSX
 try simp only [Act.put, laS]
 refine wpAnyH_done (by kernel_rfl) ?_ _
 refine NoPanic.normal ?_
 go_wp2
 have q := HQ.out
 exact bodyPost_ret (v := .tuple #[.agg (sc (.slice p9 (n + 1) c9) g en 0 0), .int .i64 ((i : Int) + 1)]) (by simp [results, Tryz.results55, asAddr, Result.andThen, q]) rfl (SOut.ok rfl (by rw [HN.out]; simp [BRd.pu, BRd.to]) (by simp [BRd.pu, BRd.to]) rfl rfl (row_weak HR.out (Nat.zero_le _)) (HB.out ▸ HB2.out))
theorem atom_one (s : List UInt8) (hs : s.length ≤ 100000) (row : BRd → Except Er BRd) (r : BRd) (hp : r.p < s.length) (hl : r.l.length ≤ 999998) (first : Bool) (d : UInt8) (hc : s[r.p]? = some d) (h46 : d ≠ 46) (h91 : d ≠ 91) (h92 : d ≠ 92) (p : Option Addr) (c : Nat) (w : World) (hrow : RRow w 0 (.slice p r.l.length c) r.l.length r.l) :
  Calls Tryz.prog 55 #[.string ⟨s.toArray⟩, .int .i64 (r.p : Int), .bool first, .agg (sc (.slice p r.l.length c) r.g r.en 0 0)] w (SOut w (atomU s row r first)) := by
 have hR : atomU s row r first = .ok ((r.to (r.p + 1)).pu (byNd (rg d.toNat d.toNat))) := by unfold atomU; rw [hc]; simp only; rw [if_neg h46, if_neg h91, if_neg h92]
 have hsz : (⟨s.toArray⟩ : ByteArray).size = s.length := by simp [ByteArray.size]
 obtain ⟨hz, hsz2⟩ := zero_of_info (P := Tryz.prog) infoSt
 rw [hR]
 have hR' : True := trivial
 obtain ⟨i, xs, g, en⟩ := r
 simp only at hp hl hrow hc ⊢
 obtain ⟨n, hn⟩ : ∃ n, n = xs.length := ⟨_, rfl⟩
 rw [← hn] at hl hrow ⊢
 obtain ⟨b, W0, s0, HS, HZ, HB0, HX0, HW, HB⟩ := atom_start p n c g en xs w hrow
 have HRW := Lib.hid hrow
 have HN := Lib.hid hn
 clear hrow hn hsz2 hR hR'
 generalize hC0 : sc (.slice none 0 0) 0 (fun _ => false) 0 0 = C0 at hz HW
 generalize hC1 : sc (.slice p n c) g en 0 0 = C1 at HW ⊢
 have ew1 : IntKind.i64.wrap ((i : Int) + 1) = (i : Int) + 1 := by simp [IntKind.wrap, IntKind.signed, IntKind.bits]; omega
 have ew2 : IntKind.i64.wrap ((i : Int) + 2) = (i : Int) + 2 := by simp [IntKind.wrap, IntKind.signed, IntKind.bits]; omega
 go_enter Tryz.func55, Tryz.ntmps55
 go_upto_region 1 with fail
 rw [← HW.out, ← HB.out]
 clear HW hz hC0
 subst hC1
 have x0 := fun W => ixm_c s i d hc W
 have c46 : ((d.toNat : Int) == 46) = false := u8_ne (d := 46) h46
 have c91 : ((d.toNat : Int) == 91) = false := u8_ne (d := 91) h91
 have c92' : ((d.toNat : Int) == 92) = false := u8_ne (d := 92) h92
 have c92 : ((d.toNat : Int) != 92) = true := by rw [bne, c92']; rfl
 have hd1 : (s.drop i).take 1 = [d] := by
  obtain ⟨h1, h2⟩ := List.getElem?_eq_some_iff.1 hc
  rw [List.drop_eq_getElem_cons h1, h2]; rfl
 have xs1 : ∀ W : World, (Instr.slice 9 (.string ⟨s.toArray⟩) (some (.int .i64 (i : Int))) (some (.int .i64 ((i : Int) + 1))) none).run Tryz.prog W = .ok (.string ⟨#[d]⟩) W := fun W => by
  have := slm_c s i (i + 1) (by omega) (by omega) W
  rw [show i + 1 - i = 1 by omega, hd1] at this
  simpa using this
 have hcl := fun w => rof_c ⟨#[d]⟩ (by simp [ByteArray.size]) w
 have hby := fun w (h : RRow w 0 (.slice p n c) n xs) => bytesU_c p n c g en 0 0 (inS ⟨#[d]⟩ 1) xs (by omega) w h
 rw [bytes_one] at hby
 have he : (⟨#[d]⟩ : ByteArray).size = 1 := rfl
 rw [he] at hcl
 unfold bv at hcl hby
 have HCL := Lib.hid hcl
 have HBY := Lib.hid hby
 clear hc hcl hby hd1 he h46 h91 h92
 generalize inS ⟨#[d]⟩ 1 = F at *
 generalize byNd (rg d.toNat d.toNat) = nd at *
 generalize d.toNat = D at *
 go_upto_region 10 with fail
 refine wp_region_noPanic ?_
 refine wp_region_held_drew (S := fun W => ST W b (.slice p n c) g en 0 0) (by kernel_rfl) ⟨HS.out.heap⟩ (fun _ => ?_)
 have HM := Lib.hid ((Below.refl W0.heap.size W0).drew)
 generalize W0.drew = W at *
 have HSW : Hid (ST W b (.slice p n c) g en 0 0) := Lib.hid (by assumption)
 refine wpAnyH_take (i := 0) (v := .agg (sc (.slice p n c) g en 0 0)) rfl (by kernel_rfl) (by kernel_rfl) (by kernel_rfl) (fun _ _ _ h => h) (Or.inl ⟨by kernel_rfl, fun w hSw => run_load_stv hSw rfl rfl⟩) HSW.out ?_
 try simp only [Act.put, laS]
 refine wpAnyH_take (i := 1) (v := ?_) rfl (by kernel_rfl) (by kernel_rfl) (by kernel_rfl) (fun _ _ _ h => h) (Or.inl ⟨by kernel_rfl, ?_⟩) HSW.out ?_
 rotate_left
 ·(intro w hSw; (try dsimp only at hSw); go_simp); (try with_reducible rfl)
 try simp only [Act.put, laS]
 refine wpAnyH_take (i := 2) (v := ?_) rfl (by kernel_rfl) (by kernel_rfl) (by kernel_rfl) (fun _ _ _ h => h) (Or.inl ⟨by kernel_rfl, ?_⟩) HSW.out ?_
 rotate_left
 ·(intro w hSw; (try dsimp only at hSw); go_simp); (try with_reducible rfl)
 try simp only [Act.put, laS]
 refine wpAnyH_take (i := 3) (v := ?_) rfl (by kernel_rfl) (by kernel_rfl) (by kernel_rfl) (fun _ _ _ h => h) (Or.inl ⟨by kernel_rfl, ?_⟩) HSW.out ?_
 rotate_left
 ·(intro w hSw; (try dsimp only at hSw); go_simp); (try with_reducible rfl)
 try simp only [Act.put, laS]
 refine wpAnyH_take (i := 4) (v := ?_) rfl (by kernel_rfl) (by kernel_rfl) (by kernel_rfl) (fun _ _ _ h => h) (Or.inl ⟨by kernel_rfl, ?_⟩) HSW.out ?_
 rotate_left
 ·(intro w hSw; (try dsimp only at hSw); go_simp); (try with_reducible rfl)
 try simp only [Act.put, laS]
 refine wpAnyH_take (i := 5) (v := ?_) rfl (by kernel_rfl) (by kernel_rfl) (by kernel_rfl) (fun _ _ _ h => h) (Or.inl ⟨by kernel_rfl, ?_⟩) HSW.out ?_
 rotate_left
 ·(intro w hSw; (try dsimp only at hSw); go_simp); (try with_reducible rfl)
 try simp only [Act.put, laS]
 refine wpAnyH_take (i := 8) (v := ?_) rfl (by kernel_rfl) (by kernel_rfl) (by kernel_rfl) (fun _ _ _ h => h) (Or.inl ⟨by kernel_rfl, ?_⟩) HSW.out ?_
 rotate_left
 ·(intro w hSw; (try dsimp only at hSw); go_simp); (try with_reducible rfl)
 try simp only [Act.put, laS]
 refine wpAnyH_take (i := 9) (v := ?_) rfl (by kernel_rfl) (by kernel_rfl) (by kernel_rfl) (fun _ _ _ h => h) (Or.inl ⟨by kernel_rfl, ?_⟩) HSW.out ?_
 rotate_left
 ·(intro w hSw; (try dsimp only at hSw); go_simp); (try with_reducible rfl)
 try simp only [Act.put, laS]
 refine wpAnyH_ready (rs := [6]) (by kernel_rfl) (by simp) ?_
 refine AllReadyH.cons rfl (fun K hK => ?_) AllReadyH.nil
 go_simp
 refine (HCL.out _).mono ?_
 rintro e1 W1 ⟨rfl, hB1⟩
 have hsW := HM.out.size
 have HM1 := Lib.hid (HM.out.trans (hB1.mono (by omega)))
 clear hB1 hsW HCL HM HSW
 have HSW := Lib.hid (HS.out.below HM1.out (by omega))
 refine hK.out _ _ HSW.out (fun _ => ?_)
 clear hK K
 try simp only [Act.put, laS]
 refine wpAnyH_ready (rs := [7]) (by kernel_rfl) (by simp) ?_
 refine AllReadyH.cons rfl (fun K hK => ?_) AllReadyH.nil
 go_simp
 refine (HBY.out _ (row_below HX0.out HM1.out)).mono ?_
 unfold LOut
 rintro e2 W2 ⟨p9, c9, rfl, hr9, hB2⟩
 have hsW := HM1.out.size
 have HM2 := Lib.hid (HM1.out.trans (hB2.mono (by omega)))
 have H9 := Lib.hid (row_weak hr9 (show b + 2 ≤ _ by omega))
 clear hB2 hsW HBY HM1 HSW hr9
 have HSW := Lib.hid (HS.out.below HM2.out (by omega))
 refine hK.out _ _ HSW.out (fun _ => ?_)
 clear hK K
 try simp only [Act.put, laS]
 refine wpAnyH_ready (rs := [10]) (by kernel_rfl) (by simp) ?_
 refine AllReadyH.cons rfl (fun K hK => ?_) AllReadyH.nil
 have HZ2 := Lib.hid (HZ.out.below HM2.out (by omega))
 refine wp_store_st HZ2.out (v' := .slice p9 (n + 1) c9) rfl rfl rfl rfl ?_
 have HSX := Lib.hid (HSW.out.setRow_other (b' := b + 1) (by omega) (sc (.slice p9 (n + 1) c9) g en 0 0))
 refine hK.out _ _ HSX.out (fun _ => ?_)
 clear hK K
 have q := (HZ2.out.put (.slice p9 (n + 1) c9) g en 0 0).load
 have HQ := Lib.hid q
 have HR := Lib.hid (row_row H9.out (show b + 1 < b + 2 by omega) (sc (.slice p9 (n + 1) c9) g en 0 0))
 have HB2 := Lib.hid (Below.setRow (HB0.out.trans (HM2.out.mono (by omega : b ≤ W0.heap.size))) (show b ≤ b + 1 by omega) (sc (.slice p9 (n + 1) c9) g en 0 0))
 clear q HZ2 HM2 H9 HSW
 try simp only [Act.put, laS]
 refine wpAnyH_ready (rs := [11]) (by kernel_rfl) (by simp) ?_
 refine AllReadyH.cons rfl (fun K hK => ?_) AllReadyH.nil
 go_simp
 refine hK.out _ _ HSX.out (fun _ => ?_)
 clear hK K HSX
 try simp only [Act.put, laS]
 refine wpAnyH_done (by kernel_rfl) ?_ _
 refine NoPanic.normal ?_
 go_wp2
 have q := HQ.out
 exact bodyPost_ret (v := .tuple #[.agg (sc (.slice p9 (n + 1) c9) g en 0 0), .int .i64 ((i : Int) + 1)]) (by simp [results, Tryz.results55, asAddr, Result.andThen, q]) rfl (SOut.ok rfl (by rw [HN.out]; simp [BRd.pu, BRd.to]) (by simp [BRd.pu, BRd.to]) rfl rfl (row_weak HR.out (Nat.zero_le _)) (HB.out ▸ HB2.out))
theorem atom_end (s : List UInt8) (hs : s.length ≤ 100000) (row : BRd → Except Er BRd) (r : BRd) (hp : r.p < s.length) (hl : r.l.length ≤ 999998) (first : Bool) (hc : s[r.p]? = some 92) (hd : s[r.p + 1]? = none) (p : Option Addr) (c : Nat) (w : World) (hrow : RRow w 0 (.slice p r.l.length c) r.l.length r.l) :
  Calls Tryz.prog 55 #[.string ⟨s.toArray⟩, .int .i64 (r.p : Int), .bool first, .agg (sc (.slice p r.l.length c) r.g r.en 0 0)] w (SOut w (atomU s row r first)) := by
 have hR : atomU s row r first = .error (40, r.p) := by unfold atomU; rw [hc]; simp only; rw [if_neg (by decide), if_neg (by decide), if_pos trivial]; unfold escU; rw [hd]
 have hsz : (⟨s.toArray⟩ : ByteArray).size = s.length := by simp [ByteArray.size]
 obtain ⟨hz, hsz2⟩ := zero_of_info (P := Tryz.prog) infoSt
 rw [hR]
 have hR' : True := trivial
 obtain ⟨i, xs, g, en⟩ := r
 simp only at hp hl hrow hc hd ⊢
 obtain ⟨n, hn⟩ : ∃ n, n = xs.length := ⟨_, rfl⟩
 rw [← hn] at hl hrow ⊢
 obtain ⟨b, W0, s0, HS, HZ, HB0, HX0, HW, HB⟩ := atom_start p n c g en xs w hrow
 have HRW := Lib.hid hrow
 have HN := Lib.hid hn
 clear hrow hn hsz2 hR hR'
 generalize hC0 : sc (.slice none 0 0) 0 (fun _ => false) 0 0 = C0 at hz HW
 generalize hC1 : sc (.slice p n c) g en 0 0 = C1 at HW ⊢
 have ew1 : IntKind.i64.wrap ((i : Int) + 1) = (i : Int) + 1 := by simp [IntKind.wrap, IntKind.signed, IntKind.bits]; omega
 have ew2 : IntKind.i64.wrap ((i : Int) + 2) = (i : Int) + 2 := by simp [IntKind.wrap, IntKind.signed, IntKind.bits]; omega
 go_enter Tryz.func55, Tryz.ntmps55
 go_upto_region 1 with fail
 rw [← HW.out, ← HB.out]
 clear HW hz hC0
 subst hC1
 have x0 := fun W => ixm_c s i 92 hc W
 have hge := List.getElem?_eq_none_iff.1 hd
 have g1 : ((i : Int) + 1 == s.length) = true := by rw [beq_iff_eq]; omega
 clear hc hd
 go_upto_region 12 with fail
 refine wp_region_lit ?_
 refine wpl_load_st HS.out rfl rfl rfl ?_
 try simp only [Act.put, laS]
 go_wp2_with fail
 refine (wrongU_c p n c g en 0 0 i 40 _).mono ?_
 rintro e w2 ⟨rfl, hB2⟩
 have HZ2 := HZ.out.below hB2 (by omega)
 have S0 := HZ2.storeCells (v' := .slice p n c) rfl g en i 40
 have q := (HZ2.put (.slice p n c) g en i 40).load
 have HQ := Lib.hid q
 have HB3 := Lib.hid (Below.setRow (HB0.out.trans (hB2.mono (by omega))) (show b ≤ b + 1 by omega) (sc (.slice p n c) g en i 40))
 clear q HS HZ HB0 HX0 hB2 HZ2
 go_wp2_with fail
 have q := HQ.out
 exact bodyPost_ret (v := .tuple #[.agg (sc (.slice p n c) g en i 40), .int .i64 i]) (by simp [results, Tryz.results55, asAddr, Result.andThen, q]) rfl (SOut.er rfl rfl (HB.out ▸ HB3.out))
theorem atom_lf (s : List UInt8) (hs : s.length ≤ 100000) (row : BRd → Except Er BRd) (r : BRd) (hp : r.p < s.length) (hl : r.l.length ≤ 999998) (first : Bool) (hc : s[r.p]? = some 92) (hd : s[r.p + 1]? = some 110) (p : Option Addr) (c : Nat) (w : World) (hrow : RRow w 0 (.slice p r.l.length c) r.l.length r.l) :
  Calls Tryz.prog 55 #[.string ⟨s.toArray⟩, .int .i64 (r.p : Int), .bool first, .agg (sc (.slice p r.l.length c) r.g r.en 0 0)] w (SOut w (atomU s row r first)) := by
 have hR : atomU s row r first = .ok ((r.to (r.p + 2)).pu (byNd (rg 10 10))) := by unfold atomU; rw [hc]; simp only; rw [if_neg (by decide), if_neg (by decide), if_pos trivial]; unfold escU; rw [hd]; simp only; rw [if_neg (by decide), if_neg (by decide), if_pos trivial]
 have hsz : (⟨s.toArray⟩ : ByteArray).size = s.length := by simp [ByteArray.size]
 obtain ⟨hz, hsz2⟩ := zero_of_info (P := Tryz.prog) infoSt
 rw [hR]
 have hR' : True := trivial
 obtain ⟨i, xs, g, en⟩ := r
 simp only at hp hl hrow hc hd ⊢
 obtain ⟨n, hn⟩ : ∃ n, n = xs.length := ⟨_, rfl⟩
 rw [← hn] at hl hrow ⊢
 obtain ⟨b, W0, s0, HS, HZ, HB0, HX0, HW, HB⟩ := atom_start p n c g en xs w hrow
 have HRW := Lib.hid hrow
 have HN := Lib.hid hn
 clear hrow hn hsz2 hR hR'
 generalize hC0 : sc (.slice none 0 0) 0 (fun _ => false) 0 0 = C0 at hz HW
 generalize hC1 : sc (.slice p n c) g en 0 0 = C1 at HW ⊢
 have ew1 : IntKind.i64.wrap ((i : Int) + 1) = (i : Int) + 1 := by simp [IntKind.wrap, IntKind.signed, IntKind.bits]; omega
 have ew2 : IntKind.i64.wrap ((i : Int) + 2) = (i : Int) + 2 := by simp [IntKind.wrap, IntKind.signed, IntKind.bits]; omega
 go_enter Tryz.func55, Tryz.ntmps55
 go_upto_region 1 with fail
 rw [← HW.out, ← HB.out]
 clear HW hz hC0
 subst hC1
 have d : UInt8 := 110
 have x0 := fun W => ixm_c s i 92 hc W
 have hlt1 := (List.getElem?_eq_some_iff.1 hd).1
 have g1 : ((i : Int) + 1 == s.length) = false := by rw [beq_eq_false_iff_ne]; omega
 have x1 : ∀ W : World, (Instr.index 9 (.string ⟨s.toArray⟩) (.int .i64 ((i : Int) + 1))).run Tryz.prog W = .ok (.int .u8 110) W := fun W => ixj_c s i 1 110 hd W
 have hcl := fun w => rof_c ⟨#[10]⟩ (by simp [ByteArray.size]) w
 have hby := fun w (h : RRow w 0 (.slice p n c) n xs) => bytesU_c p n c g en 0 0 (inS ⟨#[10]⟩ 1) xs (by omega) w h
 rw [bytes_lf] at hby
 have he : (⟨#[10]⟩ : ByteArray).size = 1 := rfl
 rw [he] at hcl
 unfold bv at hcl hby
 have HCL := Lib.hid hcl
 have HBY := Lib.hid hby
 clear hc hd hcl hby he d
 generalize inS ⟨#[10]⟩ 1 = F at *
 generalize byNd (rg 10 10) = nd at *
 go_upto_region 31 with fail
 refine wp_region_noPanic ?_
 refine wp_region_held_drew (S := fun W => ST W b (.slice p n c) g en 0 0) (by kernel_rfl) ⟨HS.out.heap⟩ (fun _ => ?_)
 have HM := Lib.hid ((Below.refl W0.heap.size W0).drew)
 generalize W0.drew = W at *
 have HSW : Hid (ST W b (.slice p n c) g en 0 0) := Lib.hid (by assumption)
 refine wpAnyH_take (i := 0) (v := .agg (sc (.slice p n c) g en 0 0)) rfl (by kernel_rfl) (by kernel_rfl) (by kernel_rfl) (fun _ _ _ h => h) (Or.inl ⟨by kernel_rfl, fun w hSw => run_load_stv hSw rfl rfl⟩) HSW.out ?_
 try simp only [Act.put, laS]
 refine wpAnyH_take (i := 3) (v := ?_) rfl (by kernel_rfl) (by kernel_rfl) (by kernel_rfl) (fun _ _ _ h => h) (Or.inl ⟨by kernel_rfl, ?_⟩) HSW.out ?_
 rotate_left
 ·(intro w hSw; (try dsimp only at hSw); go_simp); (try with_reducible rfl)
 try simp only [Act.put, laS]
 refine wpAnyH_take (i := 4) (v := ?_) rfl (by kernel_rfl) (by kernel_rfl) (by kernel_rfl) (fun _ _ _ h => h) (Or.inl ⟨by kernel_rfl, ?_⟩) HSW.out ?_
 rotate_left
 ·(intro w hSw; (try dsimp only at hSw); go_simp); (try with_reducible rfl)
 try simp only [Act.put, laS]
 refine wpAnyH_ready (rs := [1]) (by kernel_rfl) (by simp) ?_
 refine AllReadyH.cons rfl (fun K hK => ?_) AllReadyH.nil
 go_simp
 refine (HCL.out _).mono ?_
 rintro e1 W1 ⟨rfl, hB1⟩
 have hsW := HM.out.size
 have HM1 := Lib.hid (HM.out.trans (hB1.mono (by omega)))
 clear hB1 hsW HCL HM HSW
 have HSW := Lib.hid (HS.out.below HM1.out (by omega))
 refine hK.out _ _ HSW.out (fun _ => ?_)
 clear hK K
 try simp only [Act.put, laS]
 refine wpAnyH_ready (rs := [2]) (by kernel_rfl) (by simp) ?_
 refine AllReadyH.cons rfl (fun K hK => ?_) AllReadyH.nil
 go_simp
 refine (HBY.out _ (row_below HX0.out HM1.out)).mono ?_
 unfold LOut
 rintro e2 W2 ⟨p9, c9, rfl, hr9, hB2⟩
 have hsW := HM1.out.size
 have HM2 := Lib.hid (HM1.out.trans (hB2.mono (by omega)))
 have H9 := Lib.hid (row_weak hr9 (show b + 2 ≤ _ by omega))
 clear hB2 hsW HBY HM1 HSW hr9
 have HSW := Lib.hid (HS.out.below HM2.out (by omega))
 refine hK.out _ _ HSW.out (fun _ => ?_)
 clear hK K
 try simp only [Act.put, laS]
 refine wpAnyH_ready (rs := [5]) (by kernel_rfl) (by simp) ?_
 refine AllReadyH.cons rfl (fun K hK => ?_) AllReadyH.nil
 have HZ2 := Lib.hid (HZ.out.below HM2.out (by omega))
 refine wp_store_st HZ2.out (v' := .slice p9 (n + 1) c9) rfl rfl rfl rfl ?_
 have HSX := Lib.hid (HSW.out.setRow_other (b' := b + 1) (by omega) (sc (.slice p9 (n + 1) c9) g en 0 0))
 refine hK.out _ _ HSX.out (fun _ => ?_)
 clear hK K
 have q := (HZ2.out.put (.slice p9 (n + 1) c9) g en 0 0).load
 have HQ := Lib.hid q
 have HR := Lib.hid (row_row H9.out (show b + 1 < b + 2 by omega) (sc (.slice p9 (n + 1) c9) g en 0 0))
 have HB2 := Lib.hid (Below.setRow (HB0.out.trans (HM2.out.mono (by omega : b ≤ W0.heap.size))) (show b ≤ b + 1 by omega) (sc (.slice p9 (n + 1) c9) g en 0 0))
 clear q HZ2 HM2 H9 HSW
 try simp only [Act.put, laS]
 refine wpAnyH_ready (rs := [6]) (by kernel_rfl) (by simp) ?_
 refine AllReadyH.cons rfl (fun K hK => ?_) AllReadyH.nil
 go_simp
 refine hK.out _ _ HSX.out (fun _ => ?_)
 clear hK K HSX
 try simp only [Act.put, laS]
 refine wpAnyH_done (by kernel_rfl) ?_ _
 refine NoPanic.normal ?_
 go_wp2
 have q := HQ.out
 exact bodyPost_ret (v := .tuple #[.agg (sc (.slice p9 (n + 1) c9) g en 0 0), .int .i64 ((i : Int) + 2)]) (by simp [results, Tryz.results55, asAddr, Result.andThen, q]) rfl (SOut.ok rfl (by rw [HN.out]; simp [BRd.pu, BRd.to]) (by simp [BRd.pu, BRd.to]) rfl rfl (row_weak HR.out (Nat.zero_le _)) (HB.out ▸ HB2.out))
theorem atom_sp (s : List UInt8) (hs : s.length ≤ 100000) (row : BRd → Except Er BRd) (r : BRd) (hp : r.p < s.length) (hl : r.l.length ≤ 999998) (first : Bool) (hc : s[r.p]? = some 92) (d : UInt8) (hd : s[r.p + 1]? = some d) (h40 : d ≠ 40) (hdig : ¬ (decide (49 ≤ d.toNat) && decide (d.toNat ≤ 57)) = true) (h110 : d ≠ 110) (hin : d = 47 ∨ d ∈ ([46, 91, 92, 42, 94, 36] : List UInt8)) (p : Option Addr) (c : Nat) (w : World) (hrow : RRow w 0 (.slice p r.l.length c) r.l.length r.l) :
  Calls Tryz.prog 55 #[.string ⟨s.toArray⟩, .int .i64 (r.p : Int), .bool first, .agg (sc (.slice p r.l.length c) r.g r.en 0 0)] w (SOut w (atomU s row r first)) := by
 have hR : atomU s row r first = .ok ((r.to (r.p + 2)).pu (byNd (rg d.toNat d.toNat))) := by unfold atomU; rw [hc]; simp only; rw [if_neg (by decide), if_neg (by decide), if_pos trivial]; unfold escU; rw [hd]; simp only; rw [if_neg h40, if_neg hdig, if_neg h110, if_pos hin]
 have hsz : (⟨s.toArray⟩ : ByteArray).size = s.length := by simp [ByteArray.size]
 obtain ⟨hz, hsz2⟩ := zero_of_info (P := Tryz.prog) infoSt
 rw [hR]
 have hR' : True := trivial
 obtain ⟨i, xs, g, en⟩ := r
 simp only at hp hl hrow hc hd ⊢
 obtain ⟨n, hn⟩ : ∃ n, n = xs.length := ⟨_, rfl⟩
 rw [← hn] at hl hrow ⊢
 obtain ⟨b, W0, s0, HS, HZ, HB0, HX0, HW, HB⟩ := atom_start p n c g en xs w hrow
 have HRW := Lib.hid hrow
 have HN := Lib.hid hn
 clear hrow hn hsz2 hR hR'
 generalize hC0 : sc (.slice none 0 0) 0 (fun _ => false) 0 0 = C0 at hz HW
 generalize hC1 : sc (.slice p n c) g en 0 0 = C1 at HW ⊢
 have ew1 : IntKind.i64.wrap ((i : Int) + 1) = (i : Int) + 1 := by simp [IntKind.wrap, IntKind.signed, IntKind.bits]; omega
 have ew2 : IntKind.i64.wrap ((i : Int) + 2) = (i : Int) + 2 := by simp [IntKind.wrap, IntKind.signed, IntKind.bits]; omega
 go_enter Tryz.func55, Tryz.ntmps55
 go_upto_region 1 with fail
 rw [← HW.out, ← HB.out]
 clear HW hz hC0
 subst hC1
 have x0 := fun W => ixm_c s i 92 hc W
 have hlt1 := (List.getElem?_eq_some_iff.1 hd).1
 have g1 : ((i : Int) + 1 == s.length) = false := by rw [beq_eq_false_iff_ne]; omega
 have x1 : ∀ W : World, (Instr.index 9 (.string ⟨s.toArray⟩) (.int .i64 ((i : Int) + 1))).run Tryz.prog W = .ok (.int .u8 (d.toNat : Int)) W := fun W => ixj_c s i 1 d hd W
 have c40 : ((d.toNat : Int) == 40) = false := u8_ne (d := 40) h40
 have c110 : ((d.toNat : Int) == 110) = false := u8_ne (d := 110) h110
 have hd57 : ¬ (49 ≤ d.toNat ∧ d.toNat ≤ 57) := by simpa using hdig
 have hin2 : inL [46, 91, 92, 42, 94, 36, 47] d.toNat = true := by
  rcases hin with rfl | hin
  ·rfl
  ·simp only [List.mem_cons, List.not_mem_nil, or_false] at hin
   rcases hin with rfl | rfl | rfl | rfl | rfl | rfl <;> rfl
 have hi := fun w => rin_c [46, 91, 92, 42, 94, 36, 47] (by decide) d.toNat d.toNat_lt w
 rw [hin2] at hi
 have hd1 : (s.drop (i + 1)).take 1 = [d] := by
  obtain ⟨h1, h2⟩ := List.getElem?_eq_some_iff.1 hd
  rw [List.drop_eq_getElem_cons h1, h2]; rfl
 have xs1 : ∀ W : World, (Instr.slice 9 (.string ⟨s.toArray⟩) (some (.int .i64 ((i : Int) + 1))) (some (.int .i64 ((i : Int) + 2))) none).run Tryz.prog W = .ok (.string ⟨#[d]⟩) W := fun W => by
  have := slm_c s (i + 1) (i + 2) (by omega) (by omega) W
  rw [show i + 2 - (i + 1) = 1 by omega, hd1] at this
  simpa using this
 have hcl := fun w => rof_c ⟨#[d]⟩ (by simp [ByteArray.size]) w
 have hby := fun w (h : RRow w 0 (.slice p n c) n xs) => bytesU_c p n c g en 0 0 (inS ⟨#[d]⟩ 1) xs (by omega) w h
 rw [bytes_one] at hby
 have he : (⟨#[d]⟩ : ByteArray).size = 1 := rfl
 rw [he] at hcl
 unfold bv at hcl hby
 have HCL := Lib.hid hcl
 have HBY := Lib.hid hby
 have HIN := Lib.hid hi
 clear hc hd hcl hby hd1 he hi hin hin2 hdig h40 h110
 generalize inS ⟨#[d]⟩ 1 = F at *
 generalize byNd (rg d.toNat d.toNat) = nd at *
 generalize d.toNat = D at *
 go_upto_region 26 with fail
 go_cut [135] (fun v wx => v = .bool false ∧ wx = W0)
 case first =>
  clear HS HZ HB0 HX0 HRW
  by_cases h49 : 49 ≤ D
  ·have t1 : ((49 : Int) ≤ D) = True := by simp; omega
   have t2 : ((D : Int) ≤ 57) = False := by simp; omega
   go_wp2_with fail
   go_meet
   exact ⟨rfl, rfl⟩
  ·have t1 : ((49 : Int) ≤ D) = False := by simp; omega
   go_wp2_with fail
   go_meet
   exact ⟨rfl, rfl⟩
 case rest =>
  obtain ⟨rfl, hwc⟩ := hcut
  subst hwc
  obtain ⟨W0, hW0⟩ : ∃ W, W = wc := ⟨_, rfl⟩
  subst hW0
  go_wp2_with fail
  refine (HIN.out _).mono ?_
  rintro e0 Wi ⟨rfl, hBi⟩
  have HS := Lib.hid (HS.out.below hBi (by omega))
  have HZ := Lib.hid (HZ.out.below hBi (by omega))
  have HB0 := Lib.hid (HB0.out.trans (hBi.mono (by omega)))
  have HX0 := Lib.hid (row_below HX0.out hBi)
  have s0 : b + 2 ≤ Wi.heap.size := Nat.le_trans s0 hBi.size
  clear hBi HIN
  obtain ⟨W0, hW0⟩ : ∃ W, W = Wi := ⟨_, rfl⟩
  subst hW0
  go_upto_region 33 with fail
  refine wp_region_noPanic ?_
  refine wp_region_held_drew (S := fun W => ST W b (.slice p n c) g en 0 0) (by kernel_rfl) ⟨HS.out.heap⟩ (fun _ => ?_)
  have HM := Lib.hid ((Below.refl W0.heap.size W0).drew)
  generalize W0.drew = W at *
  have HSW : Hid (ST W b (.slice p n c) g en 0 0) := Lib.hid (by assumption)
  refine wpAnyH_take (i := 0) (v := .agg (sc (.slice p n c) g en 0 0)) rfl (by kernel_rfl) (by kernel_rfl) (by kernel_rfl) (fun _ _ _ h => h) (Or.inl ⟨by kernel_rfl, fun w hSw => run_load_stv hSw rfl rfl⟩) HSW.out ?_
  try simp only [Act.put, laS]
  refine wpAnyH_take (i := 1) (v := ?_) rfl (by kernel_rfl) (by kernel_rfl) (by kernel_rfl) (fun _ _ _ h => h) (Or.inl ⟨by kernel_rfl, ?_⟩) HSW.out ?_
  rotate_left
  ·(intro w hSw; (try dsimp only at hSw); go_simp); (try with_reducible rfl)
  try simp only [Act.put, laS]
  refine wpAnyH_take (i := 2) (v := ?_) rfl (by kernel_rfl) (by kernel_rfl) (by kernel_rfl) (fun _ _ _ h => h) (Or.inl ⟨by kernel_rfl, ?_⟩) HSW.out ?_
  rotate_left
  ·(intro w hSw; (try dsimp only at hSw); go_simp); (try with_reducible rfl)
  try simp only [Act.put, laS]
  refine wpAnyH_take (i := 3) (v := ?_) rfl (by kernel_rfl) (by kernel_rfl) (by kernel_rfl) (fun _ _ _ h => h) (Or.inl ⟨by kernel_rfl, ?_⟩) HSW.out ?_
  rotate_left
  ·(intro w hSw; (try dsimp only at hSw); go_simp); (try with_reducible rfl)
  try simp only [Act.put, laS]
  refine wpAnyH_take (i := 4) (v := ?_) rfl (by kernel_rfl) (by kernel_rfl) (by kernel_rfl) (fun _ _ _ h => h) (Or.inl ⟨by kernel_rfl, ?_⟩) HSW.out ?_
  rotate_left
  ·(intro w hSw; (try dsimp only at hSw); go_simp); (try with_reducible rfl)
  try simp only [Act.put, laS]
  refine wpAnyH_take (i := 5) (v := ?_) rfl (by kernel_rfl) (by kernel_rfl) (by kernel_rfl) (fun _ _ _ h => h) (Or.inl ⟨by kernel_rfl, ?_⟩) HSW.out ?_
  rotate_left
  ·(intro w hSw; (try dsimp only at hSw); go_simp); (try with_reducible rfl)
  try simp only [Act.put, laS]
  refine wpAnyH_take (i := 6) (v := ?_) rfl (by kernel_rfl) (by kernel_rfl) (by kernel_rfl) (fun _ _ _ h => h) (Or.inl ⟨by kernel_rfl, ?_⟩) HSW.out ?_
  rotate_left
  ·(intro w hSw; (try dsimp only at hSw); go_simp); (try with_reducible rfl)
  try simp only [Act.put, laS]
  refine wpAnyH_take (i := 9) (v := ?_) rfl (by kernel_rfl) (by kernel_rfl) (by kernel_rfl) (fun _ _ _ h => h) (Or.inl ⟨by kernel_rfl, ?_⟩) HSW.out ?_
  rotate_left
  ·(intro w hSw; (try dsimp only at hSw); go_simp); (try with_reducible rfl)
  try simp only [Act.put, laS]
  refine wpAnyH_take (i := 10) (v := ?_) rfl (by kernel_rfl) (by kernel_rfl) (by kernel_rfl) (fun _ _ _ h => h) (Or.inl ⟨by kernel_rfl, ?_⟩) HSW.out ?_
  rotate_left
  ·(intro w hSw; (try dsimp only at hSw); go_simp); (try with_reducible rfl)
  try simp only [Act.put, laS]
  refine wpAnyH_ready (rs := [7]) (by kernel_rfl) (by simp) ?_
  refine AllReadyH.cons rfl (fun K hK => ?_) AllReadyH.nil
  go_simp
  refine (HCL.out _).mono ?_
  rintro e1 W1 ⟨rfl, hB1⟩
  have hsW := HM.out.size
  have HM1 := Lib.hid (HM.out.trans (hB1.mono (by omega)))
  clear hB1 hsW HCL HM HSW
  have HSW := Lib.hid (HS.out.below HM1.out (by omega))
  refine hK.out _ _ HSW.out (fun _ => ?_)
  clear hK K
  try simp only [Act.put, laS]
  refine wpAnyH_ready (rs := [8]) (by kernel_rfl) (by simp) ?_
  refine AllReadyH.cons rfl (fun K hK => ?_) AllReadyH.nil
  go_simp
  refine (HBY.out _ (row_below HX0.out HM1.out)).mono ?_
  unfold LOut
  rintro e2 W2 ⟨p9, c9, rfl, hr9, hB2⟩
  have hsW := HM1.out.size
  have HM2 := Lib.hid (HM1.out.trans (hB2.mono (by omega)))
  have H9 := Lib.hid (row_weak hr9 (show b + 2 ≤ _ by omega))
  clear hB2 hsW HBY HM1 HSW hr9
  have HSW := Lib.hid (HS.out.below HM2.out (by omega))
  refine hK.out _ _ HSW.out (fun _ => ?_)
  clear hK K
  try simp only [Act.put, laS]
  refine wpAnyH_ready (rs := [11]) (by kernel_rfl) (by simp) ?_
  refine AllReadyH.cons rfl (fun K hK => ?_) AllReadyH.nil
  have HZ2 := Lib.hid (HZ.out.below HM2.out (by omega))
  refine wp_store_st HZ2.out (v' := .slice p9 (n + 1) c9) rfl rfl rfl rfl ?_
  have HSX := Lib.hid (HSW.out.setRow_other (b' := b + 1) (by omega) (sc (.slice p9 (n + 1) c9) g en 0 0))
  refine hK.out _ _ HSX.out (fun _ => ?_)
  clear hK K
  have q := (HZ2.out.put (.slice p9 (n + 1) c9) g en 0 0).load
  have HQ := Lib.hid q
  have HR := Lib.hid (row_row H9.out (show b + 1 < b + 2 by omega) (sc (.slice p9 (n + 1) c9) g en 0 0))
  have HB2 := Lib.hid (Below.setRow (HB0.out.trans (HM2.out.mono (by omega : b ≤ W0.heap.size))) (show b ≤ b + 1 by omega) (sc (.slice p9 (n + 1) c9) g en 0 0))
  clear q HZ2 HM2 H9 HSW
  try simp only [Act.put, laS]
  refine wpAnyH_ready (rs := [12]) (by kernel_rfl) (by simp) ?_
  refine AllReadyH.cons rfl (fun K hK => ?_) AllReadyH.nil
  go_simp
  refine hK.out _ _ HSX.out (fun _ => ?_)
  clear hK K HSX
  try simp only [Act.put, laS]
  refine wpAnyH_done (by kernel_rfl) ?_ _
  refine NoPanic.normal ?_
  go_wp2
  have q := HQ.out
  exact bodyPost_ret (v := .tuple #[.agg (sc (.slice p9 (n + 1) c9) g en 0 0), .int .i64 ((i : Int) + 2)]) (by simp [results, Tryz.results55, asAddr, Result.andThen, q]) rfl (SOut.ok rfl (by rw [HN.out]; simp [BRd.pu, BRd.to]) (by simp [BRd.pu, BRd.to]) rfl rfl (row_weak HR.out (Nat.zero_le _)) (HB.out ▸ HB2.out))
theorem atom_cnt (s : List UInt8) (hs : s.length ≤ 100000) (row : BRd → Except Er BRd) (r : BRd) (hp : r.p < s.length) (hl : r.l.length ≤ 999998) (first : Bool) (hc : s[r.p]? = some 92) (d : UInt8) (hd : s[r.p + 1]? = some d) (h40 : d ≠ 40) (hdig : ¬ (decide (49 ≤ d.toNat) && decide (d.toNat ≤ 57)) = true) (h110 : d ≠ 110) (hin : ¬ (d = 47 ∨ d ∈ ([46, 91, 92, 42, 94, 36] : List UInt8))) (h123 : d = 123) (hf : first = true) (p : Option Addr) (c : Nat) (w : World) (hrow : RRow w 0 (.slice p r.l.length c) r.l.length r.l) :
  Calls Tryz.prog 55 #[.string ⟨s.toArray⟩, .int .i64 (r.p : Int), .bool first, .agg (sc (.slice p r.l.length c) r.g r.en 0 0)] w (SOut w (atomU s row r first)) := by
 have hR : atomU s row r first = .error (43, r.p) := by unfold atomU; rw [hc]; simp only; rw [if_neg (by decide), if_neg (by decide), if_pos trivial]; unfold escU; rw [hd]; simp only; rw [if_neg h40, if_neg hdig, if_neg h110, if_neg hin, if_pos ⟨h123, hf⟩]
 have hsz : (⟨s.toArray⟩ : ByteArray).size = s.length := by simp [ByteArray.size]
 obtain ⟨hz, hsz2⟩ := zero_of_info (P := Tryz.prog) infoSt
 rw [hR]
 have hR' : True := trivial
 obtain ⟨i, xs, g, en⟩ := r
 simp only at hp hl hrow hc hd ⊢
 obtain ⟨n, hn⟩ : ∃ n, n = xs.length := ⟨_, rfl⟩
 rw [← hn] at hl hrow ⊢
 obtain ⟨b, W0, s0, HS, HZ, HB0, HX0, HW, HB⟩ := atom_start p n c g en xs w hrow
 have HRW := Lib.hid hrow
 have HN := Lib.hid hn
 clear hrow hn hsz2 hR hR'
 generalize hC0 : sc (.slice none 0 0) 0 (fun _ => false) 0 0 = C0 at hz HW
 generalize hC1 : sc (.slice p n c) g en 0 0 = C1 at HW ⊢
 have ew1 : IntKind.i64.wrap ((i : Int) + 1) = (i : Int) + 1 := by simp [IntKind.wrap, IntKind.signed, IntKind.bits]; omega
 have ew2 : IntKind.i64.wrap ((i : Int) + 2) = (i : Int) + 2 := by simp [IntKind.wrap, IntKind.signed, IntKind.bits]; omega
 go_enter Tryz.func55, Tryz.ntmps55
 go_upto_region 1 with fail
 rw [← HW.out, ← HB.out]
 clear HW hz hC0
 subst hC1
 have x0 := fun W => ixm_c s i 92 hc W
 have hlt1 := (List.getElem?_eq_some_iff.1 hd).1
 have g1 : ((i : Int) + 1 == s.length) = false := by rw [beq_eq_false_iff_ne]; omega
 have x1 : ∀ W : World, (Instr.index 9 (.string ⟨s.toArray⟩) (.int .i64 ((i : Int) + 1))).run Tryz.prog W = .ok (.int .u8 (d.toNat : Int)) W := fun W => ixj_c s i 1 d hd W
 have c40 : ((d.toNat : Int) == 40) = false := u8_ne (d := 40) h40
 have c110 : ((d.toNat : Int) == 110) = false := u8_ne (d := 110) h110
 have hd57 : ¬ (49 ≤ d.toNat ∧ d.toNat ≤ 57) := by simpa using hdig
 have hin2 : inL [46, 91, 92, 42, 94, 36, 47] d.toNat = false := by
  cases h : inL [46, 91, 92, 42, 94, 36, 47] d.toNat with
  | false => rfl
  | true =>
   exfalso
   apply hin
   simp only [inL, List.any_cons, List.any_nil, Bool.or_false, Bool.or_eq_true, beq_iff_eq] at h
   have q : ∀ e : UInt8, e.toNat = d.toNat → d = e := fun e h => (UInt8.toNat_inj.1 h).symm
   rcases h with h | h | h | h | h | h | h <;> (have := q _ h; subst this; decide)
 have hi := fun w => rin_c [46, 91, 92, 42, 94, 36, 47] (by decide) d.toNat d.toNat_lt w
 rw [hin2] at hi
 have HIN := Lib.hid hi
 subst hf
 have c123 : ((d.toNat : Int) == 123) = true := by rw [h123]; rfl
 clear h123
 clear hc hd hi hin hin2 hdig h40 h110
 generalize d.toNat = D at *
 go_upto_region 26 with fail
 go_cut [135] (fun v wx => v = .bool false ∧ wx = W0)
 case first =>
  clear HS HZ HB0 HX0 HRW
  by_cases h49 : 49 ≤ D
  ·have t1 : ((49 : Int) ≤ D) = True := by simp; omega
   have t2 : ((D : Int) ≤ 57) = False := by simp; omega
   go_wp2_with fail
   go_meet
   exact ⟨rfl, rfl⟩
  ·have t1 : ((49 : Int) ≤ D) = False := by simp; omega
   go_wp2_with fail
   go_meet
   exact ⟨rfl, rfl⟩
 case rest =>
  obtain ⟨rfl, hwc⟩ := hcut
  subst hwc
  obtain ⟨W0, hW0⟩ : ∃ W, W = wc := ⟨_, rfl⟩
  subst hW0
  go_wp2_with fail
  refine (HIN.out _).mono ?_
  rintro e0 Wi ⟨rfl, hBi⟩
  have HS := Lib.hid (HS.out.below hBi (by omega))
  have HZ := Lib.hid (HZ.out.below hBi (by omega))
  have HB0 := Lib.hid (HB0.out.trans (hBi.mono (by omega)))
  have HX0 := Lib.hid (row_below HX0.out hBi)
  have s0 : b + 2 ≤ Wi.heap.size := Nat.le_trans s0 hBi.size
  clear hBi HIN
  obtain ⟨W0, hW0⟩ : ∃ W, W = Wi := ⟨_, rfl⟩
  subst hW0
  go_upto_region 35 with fail
  refine wp_region_lit ?_
  refine wpl_load_st HS.out rfl rfl rfl ?_
  try simp only [Act.put, laS]
  go_wp2_with fail
  refine (wrongU_c p n c g en 0 0 i 43 _).mono ?_
  rintro e w2 ⟨rfl, hB2⟩
  have HZ2 := HZ.out.below hB2 (by omega)
  have S0 := HZ2.storeCells (v' := .slice p n c) rfl g en i 43
  have q := (HZ2.put (.slice p n c) g en i 43).load
  have HQ := Lib.hid q
  have HB3 := Lib.hid (Below.setRow (HB0.out.trans (hB2.mono (by omega))) (show b ≤ b + 1 by omega) (sc (.slice p n c) g en i 43))
  clear q HS HZ HB0 HX0 hB2 HZ2
  go_wp2_with fail
  have q := HQ.out
  exact bodyPost_ret (v := .tuple #[.agg (sc (.slice p n c) g en i 43), .int .i64 i]) (by simp [results, Tryz.results55, asAddr, Result.andThen, q]) rfl (SOut.er rfl rfl (HB.out ▸ HB3.out))
theorem atom_bad (s : List UInt8) (hs : s.length ≤ 100000) (row : BRd → Except Er BRd) (r : BRd) (hp : r.p < s.length) (hl : r.l.length ≤ 999998) (first : Bool) (hc : s[r.p]? = some 92) (d : UInt8) (hd : s[r.p + 1]? = some d) (h40 : d ≠ 40) (hdig : ¬ (decide (49 ≤ d.toNat) && decide (d.toNat ≤ 57)) = true) (h110 : d ≠ 110) (hin : ¬ (d = 47 ∨ d ∈ ([46, 91, 92, 42, 94, 36] : List UInt8))) (h123 : ¬ (d = 123 ∧ first = true)) (p : Option Addr) (c : Nat) (w : World) (hrow : RRow w 0 (.slice p r.l.length c) r.l.length r.l) :
  Calls Tryz.prog 55 #[.string ⟨s.toArray⟩, .int .i64 (r.p : Int), .bool first, .agg (sc (.slice p r.l.length c) r.g r.en 0 0)] w (SOut w (atomU s row r first)) := by
 have hR : atomU s row r first = .error (40, r.p) := by unfold atomU; rw [hc]; simp only; rw [if_neg (by decide), if_neg (by decide), if_pos trivial]; unfold escU; rw [hd]; simp only; rw [if_neg h40, if_neg hdig, if_neg h110, if_neg hin, if_neg h123]
 have hsz : (⟨s.toArray⟩ : ByteArray).size = s.length := by simp [ByteArray.size]
 obtain ⟨hz, hsz2⟩ := zero_of_info (P := Tryz.prog) infoSt
 rw [hR]
 have hR' : True := trivial
 obtain ⟨i, xs, g, en⟩ := r
 simp only at hp hl hrow hc hd ⊢
 obtain ⟨n, hn⟩ : ∃ n, n = xs.length := ⟨_, rfl⟩
 rw [← hn] at hl hrow ⊢
 obtain ⟨b, W0, s0, HS, HZ, HB0, HX0, HW, HB⟩ := atom_start p n c g en xs w hrow
 have HRW := Lib.hid hrow
 have HN := Lib.hid hn
 clear hrow hn hsz2 hR hR'
 generalize hC0 : sc (.slice none 0 0) 0 (fun _ => false) 0 0 = C0 at hz HW
 generalize hC1 : sc (.slice p n c) g en 0 0 = C1 at HW ⊢
 have ew1 : IntKind.i64.wrap ((i : Int) + 1) = (i : Int) + 1 := by simp [IntKind.wrap, IntKind.signed, IntKind.bits]; omega
 have ew2 : IntKind.i64.wrap ((i : Int) + 2) = (i : Int) + 2 := by simp [IntKind.wrap, IntKind.signed, IntKind.bits]; omega
 go_enter Tryz.func55, Tryz.ntmps55
 go_upto_region 1 with fail
 rw [← HW.out, ← HB.out]
 clear HW hz hC0
 subst hC1
 have x0 := fun W => ixm_c s i 92 hc W
 have hlt1 := (List.getElem?_eq_some_iff.1 hd).1
 have g1 : ((i : Int) + 1 == s.length) = false := by rw [beq_eq_false_iff_ne]; omega
 have x1 : ∀ W : World, (Instr.index 9 (.string ⟨s.toArray⟩) (.int .i64 ((i : Int) + 1))).run Tryz.prog W = .ok (.int .u8 (d.toNat : Int)) W := fun W => ixj_c s i 1 d hd W
 have c40 : ((d.toNat : Int) == 40) = false := u8_ne (d := 40) h40
 have c110 : ((d.toNat : Int) == 110) = false := u8_ne (d := 110) h110
 have hd57 : ¬ (49 ≤ d.toNat ∧ d.toNat ≤ 57) := by simpa using hdig
 have hin2 : inL [46, 91, 92, 42, 94, 36, 47] d.toNat = false := by
  cases h : inL [46, 91, 92, 42, 94, 36, 47] d.toNat with
  | false => rfl
  | true =>
   exfalso
   apply hin
   simp only [inL, List.any_cons, List.any_nil, Bool.or_false, Bool.or_eq_true, beq_iff_eq] at h
   have q : ∀ e : UInt8, e.toNat = d.toNat → d = e := fun e h => (UInt8.toNat_inj.1 h).symm
   rcases h with h | h | h | h | h | h | h <;> (have := q _ h; subst this; decide)
 have hi := fun w => rin_c [46, 91, 92, 42, 94, 36, 47] (by decide) d.toNat d.toNat_lt w
 rw [hin2] at hi
 have HIN := Lib.hid hi
 have cc : ((d.toNat : Int) == 123) = false ∨ (((d.toNat : Int) == 123) = true ∧ first = false) := by
  by_cases e : d = 123
  ·exact .inr ⟨by rw [e]; rfl, by cases hf : first with | false => rfl | true => exact absurd ⟨e, hf⟩ h123⟩
  ·exact .inl (u8_ne (d := 123) e)
 clear h123
 clear hc hd hi hin hin2 hdig h40 h110
 generalize d.toNat = D at *
 go_upto_region 26 with fail
 go_cut [135] (fun v wx => v = .bool false ∧ wx = W0)
 case first =>
  clear HS HZ HB0 HX0 HRW
  by_cases h49 : 49 ≤ D
  ·have t1 : ((49 : Int) ≤ D) = True := by simp; omega
   have t2 : ((D : Int) ≤ 57) = False := by simp; omega
   go_wp2_with fail
   go_meet
   exact ⟨rfl, rfl⟩
  ·have t1 : ((49 : Int) ≤ D) = False := by simp; omega
   go_wp2_with fail
   go_meet
   exact ⟨rfl, rfl⟩
 case rest =>
  obtain ⟨rfl, hwc⟩ := hcut
  subst hwc
  obtain ⟨W0, hW0⟩ : ∃ W, W = wc := ⟨_, rfl⟩
  subst hW0
  go_wp2_with fail
  refine (HIN.out _).mono ?_
  rintro e0 Wi ⟨rfl, hBi⟩
  have HS := Lib.hid (HS.out.below hBi (by omega))
  have HZ := Lib.hid (HZ.out.below hBi (by omega))
  have HB0 := Lib.hid (HB0.out.trans (hBi.mono (by omega)))
  have HX0 := Lib.hid (row_below HX0.out hBi)
  have s0 : b + 2 ≤ Wi.heap.size := Nat.le_trans s0 hBi.size
  clear hBi HIN
  obtain ⟨W0, hW0⟩ : ∃ W, W = Wi := ⟨_, rfl⟩
  subst hW0
  obtain c123 | ⟨c123, rfl⟩ := cc
  all_goals
   go_upto_region 36 with fail
   refine wp_region_lit ?_
   refine wpl_load_st HS.out rfl rfl rfl ?_
   try simp only [Act.put, laS]
   go_wp2_with fail
   refine (wrongU_c p n c g en 0 0 i 40 _).mono ?_
   rintro e w2 ⟨rfl, hB2⟩
   have HZ2 := HZ.out.below hB2 (by omega)
   have S0 := HZ2.storeCells (v' := .slice p n c) rfl g en i 40
   have q := (HZ2.put (.slice p n c) g en i 40).load
   have HQ := Lib.hid q
   have HB3 := Lib.hid (Below.setRow (HB0.out.trans (hB2.mono (by omega))) (show b ≤ b + 1 by omega) (sc (.slice p n c) g en i 40))
   clear q HS HZ HB0 HX0 hB2 HZ2
   go_wp2_with fail
   have q := HQ.out
   exact bodyPost_ret (v := .tuple #[.agg (sc (.slice p n c) g en i 40), .int .i64 i]) (by simp [results, Tryz.results55, asAddr, Result.andThen, q]) rfl (SOut.er rfl rfl (HB.out ▸ HB3.out))
theorem atom_dno (s : List UInt8) (hs : s.length ≤ 100000) (row : BRd → Except Er BRd) (r : BRd) (hp : r.p < s.length) (hl : r.l.length ≤ 999998) (first : Bool) (hc : s[r.p]? = some 92) (d : UInt8) (hd : s[r.p + 1]? = some d) (h40 : d ≠ 40) (hdig : (decide (49 ≤ d.toNat) && decide (d.toNat ≤ 57)) = true) (hen : r.en (d.toNat - 48) = false) (p : Option Addr) (c : Nat) (w : World) (hrow : RRow w 0 (.slice p r.l.length c) r.l.length r.l) :
  Calls Tryz.prog 55 #[.string ⟨s.toArray⟩, .int .i64 (r.p : Int), .bool first, .agg (sc (.slice p r.l.length c) r.g r.en 0 0)] w (SOut w (atomU s row r first)) := by
 have hR : atomU s row r first = .error (44, r.p) := by unfold atomU; rw [hc]; simp only; rw [if_neg (by decide), if_neg (by decide), if_pos trivial]; unfold escU; rw [hd]; simp only; rw [if_neg h40, if_pos hdig, hen]; rfl
 have hsz : (⟨s.toArray⟩ : ByteArray).size = s.length := by simp [ByteArray.size]
 obtain ⟨hz, hsz2⟩ := zero_of_info (P := Tryz.prog) infoSt
 rw [hR]
 have hR' : True := trivial
 obtain ⟨i, xs, g, en⟩ := r
 simp only at hp hl hrow hc hd hen ⊢
 obtain ⟨n, hn⟩ : ∃ n, n = xs.length := ⟨_, rfl⟩
 rw [← hn] at hl hrow ⊢
 obtain ⟨b, W0, s0, HS, HZ, HB0, HX0, HW, HB⟩ := atom_start p n c g en xs w hrow
 have HRW := Lib.hid hrow
 have HN := Lib.hid hn
 clear hrow hn hsz2 hR hR'
 generalize hC0 : sc (.slice none 0 0) 0 (fun _ => false) 0 0 = C0 at hz HW
 generalize hC1 : sc (.slice p n c) g en 0 0 = C1 at HW ⊢
 have ew1 : IntKind.i64.wrap ((i : Int) + 1) = (i : Int) + 1 := by simp [IntKind.wrap, IntKind.signed, IntKind.bits]; omega
 have ew2 : IntKind.i64.wrap ((i : Int) + 2) = (i : Int) + 2 := by simp [IntKind.wrap, IntKind.signed, IntKind.bits]; omega
 go_enter Tryz.func55, Tryz.ntmps55
 go_upto_region 1 with fail
 rw [← HW.out, ← HB.out]
 clear HW hz hC0
 subst hC1
 have x0 := fun W => ixm_c s i 92 hc W
 have hlt1 := (List.getElem?_eq_some_iff.1 hd).1
 have g1 : ((i : Int) + 1 == s.length) = false := by rw [beq_eq_false_iff_ne]; omega
 have x1 : ∀ W : World, (Instr.index 9 (.string ⟨s.toArray⟩) (.int .i64 ((i : Int) + 1))).run Tryz.prog W = .ok (.int .u8 (d.toNat : Int)) W := fun W => ixj_c s i 1 d hd W
 have c40 : ((d.toNat : Int) == 40) = false := u8_ne (d := 40) h40
 have hd57 : 49 ≤ d.toNat ∧ d.toNat ≤ 57 := by simpa using hdig
 have t1 : ((49 : Int) ≤ d.toNat) = True := by simp; omega
 have t2 : ((d.toNat : Int) ≤ 57) = True := by simp; omega
 obtain ⟨k, hk⟩ : ∃ k, k = d.toNat - 48 := ⟨_, rfl⟩
 have hk9 : 1 ≤ k ∧ k ≤ 9 := by omega
 have e1 : IntKind.u8.wrap ((d.toNat : Int) - 48) = (k : Int) := by simp [IntKind.wrap, IntKind.signed, IntKind.bits]; omega
 have e2 : IntKind.i64.wrap (k : Int) = (k : Int) := by simp [IntKind.wrap, IntKind.signed, IntKind.bits]; omega
 have ce : W0.cell? ⟨b, 2 + k, none⟩ = some (.bool false) := by
  rw [HS.out.cell (2 + k), ← hen, ← hk]
  rcases (by omega : k = 1 ∨ k = 2 ∨ k = 3 ∨ k = 4 ∨ k = 5 ∨ k = 6 ∨ k = 7 ∨ k = 8 ∨ k = 9) with rfl | rfl | rfl | rfl | rfl | rfl | rfl | rfl | rfl <;> rfl
 have hdk : (d.toNat : Int) - 48 = (k : Int) := by omega
 have HDK := Lib.hid hdk
 clear hc hd hdig h40 hen hk hd57 hdk
 generalize d.toNat = D at *
 go_upto_region 27 with fail
 go_upto_region 28 with fail
 refine wp_region_lit ?_
 refine wpl_load_st HS.out rfl rfl rfl ?_
 try simp only [Act.put, laS]
 go_wp2_with fail
 refine (wrongU_c p n c g en 0 0 i 44 _).mono ?_
 rintro e w2 ⟨rfl, hB2⟩
 have HZ2 := HZ.out.below hB2 (by omega)
 have S0 := HZ2.storeCells (v' := .slice p n c) rfl g en i 44
 have q := (HZ2.put (.slice p n c) g en i 44).load
 have HQ := Lib.hid q
 have HB3 := Lib.hid (Below.setRow (HB0.out.trans (hB2.mono (by omega))) (show b ≤ b + 1 by omega) (sc (.slice p n c) g en i 44))
 clear q HS HZ HB0 HX0 hB2 HZ2
 go_wp2_with fail
 have q := HQ.out
 exact bodyPost_ret (v := .tuple #[.agg (sc (.slice p n c) g en i 44), .int .i64 i]) (by simp [results, Tryz.results55, asAddr, Result.andThen, q]) rfl (SOut.er rfl rfl (HB.out ▸ HB3.out))
theorem atom_dyes (s : List UInt8) (hs : s.length ≤ 100000) (row : BRd → Except Er BRd) (r : BRd) (hp : r.p < s.length) (hl : r.l.length ≤ 999998) (first : Bool) (hc : s[r.p]? = some 92) (d : UInt8) (hd : s[r.p + 1]? = some d) (h40 : d ≠ 40) (hdig : (decide (49 ≤ d.toNat) && decide (d.toNat ≤ 57)) = true) (hen : r.en (d.toNat - 48) = true) (p : Option Addr) (c : Nat) (w : World) (hrow : RRow w 0 (.slice p r.l.length c) r.l.length r.l) :
  Calls Tryz.prog 55 #[.string ⟨s.toArray⟩, .int .i64 (r.p : Int), .bool first, .agg (sc (.slice p r.l.length c) r.g r.en 0 0)] w (SOut w (atomU s row r first)) := by
 have hR : atomU s row r first = .ok ((r.to (r.p + 2)).pu ⟨8, 0, 0, 0, 0, 0, 0, 0, 0, (d.toNat : Int) - 48⟩) := by unfold atomU; rw [hc]; simp only; rw [if_neg (by decide), if_neg (by decide), if_pos trivial]; unfold escU; rw [hd]; simp only; rw [if_neg h40, if_pos hdig, hen]; rfl
 have hsz : (⟨s.toArray⟩ : ByteArray).size = s.length := by simp [ByteArray.size]
 obtain ⟨hz, hsz2⟩ := zero_of_info (P := Tryz.prog) infoSt
 rw [hR]
 have hR' : True := trivial
 obtain ⟨i, xs, g, en⟩ := r
 simp only at hp hl hrow hc hd hen ⊢
 obtain ⟨n, hn⟩ : ∃ n, n = xs.length := ⟨_, rfl⟩
 rw [← hn] at hl hrow ⊢
 obtain ⟨b, W0, s0, HS, HZ, HB0, HX0, HW, HB⟩ := atom_start p n c g en xs w hrow
 have HRW := Lib.hid hrow
 have HN := Lib.hid hn
 clear hrow hn hsz2 hR hR'
 generalize hC0 : sc (.slice none 0 0) 0 (fun _ => false) 0 0 = C0 at hz HW
 generalize hC1 : sc (.slice p n c) g en 0 0 = C1 at HW ⊢
 have ew1 : IntKind.i64.wrap ((i : Int) + 1) = (i : Int) + 1 := by simp [IntKind.wrap, IntKind.signed, IntKind.bits]; omega
 have ew2 : IntKind.i64.wrap ((i : Int) + 2) = (i : Int) + 2 := by simp [IntKind.wrap, IntKind.signed, IntKind.bits]; omega
 go_enter Tryz.func55, Tryz.ntmps55
 go_upto_region 1 with fail
 rw [← HW.out, ← HB.out]
 clear HW hz hC0
 subst hC1
 have x0 := fun W => ixm_c s i 92 hc W
 have hlt1 := (List.getElem?_eq_some_iff.1 hd).1
 have g1 : ((i : Int) + 1 == s.length) = false := by rw [beq_eq_false_iff_ne]; omega
 have x1 : ∀ W : World, (Instr.index 9 (.string ⟨s.toArray⟩) (.int .i64 ((i : Int) + 1))).run Tryz.prog W = .ok (.int .u8 (d.toNat : Int)) W := fun W => ixj_c s i 1 d hd W
 have c40 : ((d.toNat : Int) == 40) = false := u8_ne (d := 40) h40
 have hd57 : 49 ≤ d.toNat ∧ d.toNat ≤ 57 := by simpa using hdig
 have t1 : ((49 : Int) ≤ d.toNat) = True := by simp; omega
 have t2 : ((d.toNat : Int) ≤ 57) = True := by simp; omega
 obtain ⟨k, hk⟩ : ∃ k, k = d.toNat - 48 := ⟨_, rfl⟩
 have hk9 : 1 ≤ k ∧ k ≤ 9 := by omega
 have e1 : IntKind.u8.wrap ((d.toNat : Int) - 48) = (k : Int) := by simp [IntKind.wrap, IntKind.signed, IntKind.bits]; omega
 have e2 : IntKind.i64.wrap (k : Int) = (k : Int) := by simp [IntKind.wrap, IntKind.signed, IntKind.bits]; omega
 have ce : W0.cell? ⟨b, 2 + k, none⟩ = some (.bool true) := by
  rw [HS.out.cell (2 + k), ← hen, ← hk]
  rcases (by omega : k = 1 ∨ k = 2 ∨ k = 3 ∨ k = 4 ∨ k = 5 ∨ k = 6 ∨ k = 7 ∨ k = 8 ∨ k = 9) with rfl | rfl | rfl | rfl | rfl | rfl | rfl | rfl | rfl <;> rfl
 have hdk : (d.toNat : Int) - 48 = (k : Int) := by omega
 have HDK := Lib.hid hdk
 clear hc hd hdig h40 hen hk hd57 hdk
 generalize d.toNat = D at *
 go_upto_region 27 with fail
 rw [HDK.out]
 have hlf := fun w (h : RRow w 0 (.slice p n c) n xs) => leafU_c p n c g en 0 0 ⟨8, 0, 0, 0, 0, 0, 0, 0, 0, (k : Int)⟩ xs (by omega) w h
 unfold Nd.cells at hlf
 dsimp only at hlf
 have HLF := Lib.hid hlf
 clear hlf
 go_upto_region 29 with fail
 refine wp_region_lit ?_
 refine wpl_load_st HS.out rfl rfl rfl ?_
 try simp only [Act.put, laS]
 go_wp2_with fail
 refine (HLF.out _ HX0.out).mono ?_
 rintro e w2 ⟨p9, c9, rfl, hr9, hB2⟩
 have HZ2 := HZ.out.below hB2 (by omega)
 have S0 := HZ2.storeCells (v' := .slice p9 (n + 1) c9) rfl g en 0 0
 have q := (HZ2.put (.slice p9 (n + 1) c9) g en 0 0).load
 have HQ := Lib.hid q
 have HB3 := Lib.hid (Below.setRow (HB0.out.trans (hB2.mono (by omega))) (show b ≤ b + 1 by omega) (sc (.slice p9 (n + 1) c9) g en 0 0))
 have HR := Lib.hid (row_row hr9 (show b + 1 < _ by omega) (sc (.slice p9 (n + 1) c9) g en 0 0))
 clear q HS HZ HB0 HX0 hB2 HZ2 hr9 HLF
 go_wp2_with fail
 have q := HQ.out
 exact bodyPost_ret (v := .tuple #[.agg (sc (.slice p9 (n + 1) c9) g en 0 0), .int .i64 ((i : Int) + 2)]) (by simp [results, Tryz.results55, asAddr, Result.andThen, q]) rfl (SOut.ok (q := (BRd.to ⟨i, xs, g, en⟩ (i + 2)).pu ⟨8, 0, 0, 0, 0, 0, 0, 0, 0, (k : Int)⟩) (by rw [← HDK.out]) (by rw [HN.out]; simp [BRd.pu, BRd.to]) (by simp [BRd.pu, BRd.to]) rfl rfl (row_weak HR.out (Nat.zero_le _)) (HB.out ▸ HB3.out))
theorem atom_bno (s : List UInt8) (hs : s.length ≤ 100000) (row : BRd → Except Er BRd) (r : BRd) (hp : r.p < s.length) (hl : r.l.length ≤ 999998) (first : Bool) (hc : s[r.p]? = some 91) (hb0 : brkP (s.drop r.p) = none) (p : Option Addr) (c : Nat) (w : World) (hrow : RRow w 0 (.slice p r.l.length c) r.l.length r.l) :
  Calls Tryz.prog 55 #[.string ⟨s.toArray⟩, .int .i64 (r.p : Int), .bool first, .agg (sc (.slice p r.l.length c) r.g r.en 0 0)] w (SOut w (atomU s row r first)) := by
 have hR : atomU s row r first = .error (42, r.p) := by unfold atomU; rw [hc]; simp only; rw [if_neg (by decide), if_pos trivial, hb0]
 have hsz : (⟨s.toArray⟩ : ByteArray).size = s.length := by simp [ByteArray.size]
 obtain ⟨hz, hsz2⟩ := zero_of_info (P := Tryz.prog) infoSt
 rw [hR]
 have hR' : True := trivial
 obtain ⟨i, xs, g, en⟩ := r
 simp only at hp hl hrow hc hb0 ⊢
 obtain ⟨n, hn⟩ : ∃ n, n = xs.length := ⟨_, rfl⟩
 rw [← hn] at hl hrow ⊢
 obtain ⟨b, W0, s0, HS, HZ, HB0, HX0, HW, HB⟩ := atom_start p n c g en xs w hrow
 have HRW := Lib.hid hrow
 have HN := Lib.hid hn
 clear hrow hn hsz2 hR hR'
 generalize hC0 : sc (.slice none 0 0) 0 (fun _ => false) 0 0 = C0 at hz HW
 generalize hC1 : sc (.slice p n c) g en 0 0 = C1 at HW ⊢
 have ew1 : IntKind.i64.wrap ((i : Int) + 1) = (i : Int) + 1 := by simp [IntKind.wrap, IntKind.signed, IntKind.bits]; omega
 have ew2 : IntKind.i64.wrap ((i : Int) + 2) = (i : Int) + 2 := by simp [IntKind.wrap, IntKind.signed, IntKind.bits]; omega
 go_enter Tryz.func55, Tryz.ntmps55
 go_upto_region 1 with fail
 rw [← HW.out, ← HB.out]
 clear HW hz hC0
 subst hC1
 have x0 := fun W => ixm_c s i 91 hc W
 have hdl : (s.drop i).length ≤ 100000 := by rw [List.length_drop]; omega
 have hbk := fun w => rbracket_go (s.drop i) hdl w
 rw [brk_same, hb0] at hbk
 unfold BkOut at hbk
 have HBK := Lib.hid hbk
 have xs0 : ∀ W : World, (Instr.slice 9 (.string ⟨s.toArray⟩) (some (.int .i64 (i : Int))) none none).run Tryz.prog W = .ok (.string ⟨(s.drop i).toArray⟩) W := fun W => sltail_c s i (by omega) W
 obtain ⟨hzs, hszs⟩ := zero_of_info (P := Tryz.prog) info27
 clear hc hbk hb0 hdl
 generalize (⟨(s.drop i).toArray⟩ : ByteArray) = X at *
 go_upto_region 5 with fail
 go_wp2_with fail
 refine (HBK.out _).mono ?_
 rintro e1 W1 ⟨rfl, hB1⟩
 have HS := Lib.hid (HS.out.below hB1 (by omega))
 have HZ := Lib.hid (HZ.out.below hB1 (by omega))
 have HB0 := Lib.hid (HB0.out.trans (hB1.mono (by omega)))
 have HX0 := Lib.hid (row_below HX0.out hB1)
 have s0 : b + 2 ≤ W1.heap.size := Nat.le_trans s0 hB1.size
 clear hB1 HBK
 have Z := Row.new W1 (fun _ => false)
 have Zs := Z.storeCells (fun _ => false)
 have hBa : Below W1.heap.size W1 (W1.alloc (.cells (barr fun _ => false) 66)) := (Below.refl _ W1).alloc (Nat.le_refl _) _
 have hBs := Below.setRow hBa (Nat.le_refl _) (barr fun _ => false)
 have HS := Lib.hid (HS.out.below hBs (by omega))
 have HZ := Lib.hid (HZ.out.below hBs (by omega))
 have HB0 := Lib.hid (HB0.out.trans (hBs.mono (by omega)))
 have s0 : b + 2 ≤ ((W1.alloc (.cells (barr fun _ => false) 66)).setRow W1.heap.size (barr fun _ => false)).heap.size := Nat.le_trans s0 hBs.size
 clear Z hBa hBs
 go_upto_region 7 with fail
 refine wp_region_lit ?_
 refine wpl_load_st HS.out rfl rfl rfl ?_
 try simp only [Act.put, laS]
 go_wp2_with fail
 refine (wrongU_c p n c g en 0 0 i 42 _).mono ?_
 rintro e w2 ⟨rfl, hB2⟩
 have HZ2 := HZ.out.below hB2 (by omega)
 have S0 := HZ2.storeCells (v' := .slice p n c) rfl g en i 42
 have q := (HZ2.put (.slice p n c) g en i 42).load
 have HQ := Lib.hid q
 have HB3 := Lib.hid (Below.setRow (HB0.out.trans (hB2.mono (by omega))) (show b ≤ b + 1 by omega) (sc (.slice p n c) g en i 42))
 clear q HS HZ HB0 HX0 hB2 HZ2
 go_wp2_with fail
 have q := HQ.out
 exact bodyPost_ret (v := .tuple #[.agg (sc (.slice p n c) g en i 42), .int .i64 i]) (by simp [results, Tryz.results55, asAddr, Result.andThen, q]) rfl (SOut.er rfl rfl (HB.out ▸ HB3.out))
theorem atom_byes (s : List UInt8) (hs : s.length ≤ 100000) (row : BRd → Except Er BRd) (r : BRd) (hp : r.p < s.length) (hl : r.l.length ≤ 999998) (first : Bool) (hc : s[r.p]? = some 91) (F : Nat → Bool) (m : Nat) (hb0 : brkP (s.drop r.p) = some (F, m)) (p : Option Addr) (c : Nat) (w : World) (hrow : RRow w 0 (.slice p r.l.length c) r.l.length r.l) :
  Calls Tryz.prog 55 #[.string ⟨s.toArray⟩, .int .i64 (r.p : Int), .bool first, .agg (sc (.slice p r.l.length c) r.g r.en 0 0)] w (SOut w (atomU s row r first)) := by
 have hR : atomU s row r first = .ok ((r.to (r.p + m)).pu (byNd F)) := by unfold atomU; rw [hc]; simp only; rw [if_neg (by decide), if_pos trivial, hb0]
 have hsz : (⟨s.toArray⟩ : ByteArray).size = s.length := by simp [ByteArray.size]
 obtain ⟨hz, hsz2⟩ := zero_of_info (P := Tryz.prog) infoSt
 rw [hR]
 have hR' : True := trivial
 obtain ⟨i, xs, g, en⟩ := r
 simp only at hp hl hrow hc hb0 ⊢
 obtain ⟨n, hn⟩ : ∃ n, n = xs.length := ⟨_, rfl⟩
 rw [← hn] at hl hrow ⊢
 obtain ⟨b, W0, s0, HS, HZ, HB0, HX0, HW, HB⟩ := atom_start p n c g en xs w hrow
 have HRW := Lib.hid hrow
 have HN := Lib.hid hn
 clear hrow hn hsz2 hR hR'
 generalize hC0 : sc (.slice none 0 0) 0 (fun _ => false) 0 0 = C0 at hz HW
 generalize hC1 : sc (.slice p n c) g en 0 0 = C1 at HW ⊢
 have ew1 : IntKind.i64.wrap ((i : Int) + 1) = (i : Int) + 1 := by simp [IntKind.wrap, IntKind.signed, IntKind.bits]; omega
 have ew2 : IntKind.i64.wrap ((i : Int) + 2) = (i : Int) + 2 := by simp [IntKind.wrap, IntKind.signed, IntKind.bits]; omega
 go_enter Tryz.func55, Tryz.ntmps55
 go_upto_region 1 with fail
 rw [← HW.out, ← HB.out]
 clear HW hz hC0
 subst hC1
 have hml : i + m ≤ s.length := by
  have := brkP_le hb0
  rw [List.length_drop] at this
  simp only at this
  omega
 have ewm : IntKind.i64.wrap ((i : Int) + (m : Int)) = (i : Int) + (m : Int) := by simp [IntKind.wrap, IntKind.signed, IntKind.bits]; omega
 have x0 := fun W => ixm_c s i 91 hc W
 have hdl : (s.drop i).length ≤ 100000 := by rw [List.length_drop]; omega
 have hbk := fun w => rbracket_go (s.drop i) hdl w
 rw [brk_same, hb0] at hbk
 unfold BkOut at hbk
 have HBK := Lib.hid hbk
 have xs0 : ∀ W : World, (Instr.slice 9 (.string ⟨s.toArray⟩) (some (.int .i64 (i : Int))) none none).run Tryz.prog W = .ok (.string ⟨(s.drop i).toArray⟩) W := fun W => sltail_c s i (by omega) W
 obtain ⟨hzs, hszs⟩ := zero_of_info (P := Tryz.prog) info27
 clear hc hbk hb0 hdl
 generalize (⟨(s.drop i).toArray⟩ : ByteArray) = X at *
 go_upto_region 5 with fail
 go_wp2_with fail
 refine (HBK.out _).mono ?_
 rintro e1 W1 ⟨rfl, hB1⟩
 have HS := Lib.hid (HS.out.below hB1 (by omega))
 have HZ := Lib.hid (HZ.out.below hB1 (by omega))
 have HB0 := Lib.hid (HB0.out.trans (hB1.mono (by omega)))
 have HX0 := Lib.hid (row_below HX0.out hB1)
 have s0 : b + 2 ≤ W1.heap.size := Nat.le_trans s0 hB1.size
 clear hB1 HBK
 have Z := Row.new W1 (fun _ => false)
 have Zs := Z.storeCells F
 have ZR := Lib.hid (Z.put F)
 have hBa : Below W1.heap.size W1 (W1.alloc (.cells (barr fun _ => false) 66)) := (Below.refl _ W1).alloc (Nat.le_refl _) _
 have hBs := Below.setRow hBa (Nat.le_refl _) (barr F)
 have HS := Lib.hid (HS.out.below hBs (by omega))
 have HZ := Lib.hid (HZ.out.below hBs (by omega))
 have HB0 := Lib.hid (HB0.out.trans (hBs.mono (by omega)))
 have HX0 := Lib.hid (row_below HX0.out hBs)
 have s0 : b + 2 ≤ ((W1.alloc (.cells (barr fun _ => false) 66)).setRow W1.heap.size (barr F)).heap.size := Nat.le_trans s0 hBs.size
 have hby := fun w (h : RRow w 0 (.slice p n c) n xs) => bytesU_c p n c g en 0 0 F xs (by omega) w h
 unfold bv at hby
 have HLF := Lib.hid hby
 clear Z hBa hBs hby
 go_upto_region 8 with fail
 generalize (W1.alloc (.cells (barr fun _ => false) 66)).setRow W1.heap.size (barr F) = W2 at *
 refine wp_region_lit ?_
 refine wpl_load_st HS.out rfl rfl rfl ?_
 try simp only [Act.put, laS]
 refine wpl_load_row ZR.out rfl rfl rfl ?_
 try simp only [Act.put, laS]
 go_wp2_with fail
 refine (HLF.out _ HX0.out).mono ?_
 unfold LOut
 rintro e w2 ⟨p9, c9, rfl, hr9, hB2⟩
 have HZ2 := HZ.out.below hB2 (by omega)
 have S0 := HZ2.storeCells (v' := .slice p9 (n + 1) c9) rfl g en 0 0
 have q := (HZ2.put (.slice p9 (n + 1) c9) g en 0 0).load
 have HQ := Lib.hid q
 have HB3 := Lib.hid (Below.setRow (HB0.out.trans (hB2.mono (by omega))) (show b ≤ b + 1 by omega) (sc (.slice p9 (n + 1) c9) g en 0 0))
 have HR := Lib.hid (row_row hr9 (show b + 1 < _ by omega) (sc (.slice p9 (n + 1) c9) g en 0 0))
 clear q HS HZ HB0 HX0 hB2 HZ2 hr9 HLF
 go_wp2_with fail
 have q := HQ.out
 exact bodyPost_ret (v := .tuple #[.agg (sc (.slice p9 (n + 1) c9) g en 0 0), .int .i64 ((i : Int) + (m : Int))]) (by simp [results, Tryz.results55, asAddr, Result.andThen, q]) rfl (SOut.ok rfl (by rw [HN.out]; simp [BRd.pu, BRd.to]) (by simp [BRd.pu, BRd.to]) rfl rfl (row_weak HR.out (Nat.zero_le _)) (HB.out ▸ HB3.out))
end Go.Proofs.YtkcbknfhckomcaaGreatDoor
