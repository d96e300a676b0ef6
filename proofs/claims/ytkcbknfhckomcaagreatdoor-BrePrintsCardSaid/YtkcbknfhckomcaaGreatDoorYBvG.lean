/- The reference's times. -/
import Derived.Test.YtkcbknfhckomcaaGreatDoorYBvD
import Derived.Test.YtkcbknfhckomcaaGreatDoorYBvF
import Derived.Deep.CutBlock
set_option linter.unusedVariables false
set_option linter.unusedSimpArgs false
set_option maxRecDepth 100000
set_option maxHeartbeats 40000000
namespace Go.Proofs.YtkcbknfhckomcaaGreatDoor
open Go.RowKit Go.Lib
def SOut (w : World) (res : Except Er BRd) (r : Ending) (w' : World) : Prop := match res with
 | .error (er, at_) => ∃ p n c g en k, r = .returned (.tuple #[.agg (sc (.slice p n c) g en (at_ : Int) er), .int .i64 k]) ∧ Below w.heap.size w w'
 | .ok q => ∃ p c, r = .returned (.tuple #[.agg (sc (.slice p q.l.length c) q.g q.en 0 0), .int .i64 (q.p : Int)]) ∧ RRow w' 0 (.slice p q.l.length c) q.l.length q.l ∧ Below w.heap.size w w'
theorem SOut.er {w w' : World} {res : Except Er BRd} {er : Int} {at_ : Nat} {p : Option Addr} {n c : Nat} {g : Int} {en : Nat → Bool} {z k : Int} (h : res = .error (er, at_)) (hz : z = (at_ : Int)) (hB : Below w.heap.size w w') :
  SOut w res (.returned (.tuple #[.agg (sc (.slice p n c) g en z er), .int .i64 k])) w' := by subst hz; rw [h]; exact ⟨p, n, c, g, en, k, rfl, hB⟩
theorem SOut.ok {w w' : World} {res : Except Er BRd} {q : BRd} {p : Option Addr} {n c : Nat} {k : Int} {g : Int} {en : Nat → Bool} (h : res = .ok q) (hn : n = q.l.length) (hk : k = (q.p : Int)) (hg : g = (q.g : Int)) (he : en = q.en) (hr : RRow w' 0 (.slice p n c) n q.l) (hB : Below w.heap.size w w') :
  SOut w res (.returned (.tuple #[.agg (sc (.slice p n c) g en 0 0), .int .i64 k])) w' := by subst hn hk hg he; rw [h]; exact ⟨p, c, rfl, hr, hB⟩
theorem timesU_c (s : List UInt8) (hs : s.length ≤ 100000) (r : BRd) (hp : r.p ≤ s.length) (h1 : 1 ≤ r.l.length) (hl : r.l.length ≤ 999998) (p : Option Addr) (c : Nat) (w : World) (hrow : RRow w 0 (.slice p r.l.length c) r.l.length r.l) :
  Calls Tryz.prog 56 #[.string ⟨s.toArray⟩, .int .i64 (r.p : Int), .agg (sc (.slice p r.l.length c) r.g r.en 0 0)] w (SOut w (behU s r)) := by
 have hsz : (⟨s.toArray⟩ : ByteArray).size = s.length := by simp [ByteArray.size]
 obtain ⟨hz, hsz2⟩ := zero_of_info (P := Tryz.prog) infoSt
 obtain ⟨i, xs, g, en⟩ := r
 simp only at hp h1 hl hrow ⊢
 obtain ⟨n, hn⟩ : ∃ n, n = xs.length := ⟨_, rfl⟩
 rw [← hn] at h1 hl hrow ⊢
 obtain ⟨R, hR⟩ : ∃ R, R = behU s ⟨i, xs, g, en⟩ := ⟨_, rfl⟩
 rw [← hR]
 have HR := Lib.hid hR
 clear hR
 obtain ⟨b, hb⟩ : ∃ b, b = w.heap.size := ⟨_, rfl⟩
 obtain ⟨W0, hW⟩ : ∃ W0, W0 = (w.alloc (.cells (sc (.slice p n c) g en 0 0) 69)).alloc (.cells (sc (.slice none 0 0) 0 (fun _ => false) 0 0) 69) := ⟨_, rfl⟩
 have s0 : W0.heap.size = b + 2 := by rw [hW, hb]; simp
 have hS : ST W0 b (.slice p n c) g en 0 0 := by rw [hW, hb]; exact (ST.new w _ _ _ _ _).alloc _
 have hZ : ST W0 (b + 1) (.slice none 0 0) 0 (fun _ => false) 0 0 := by
  rw [hW, hb]
  have := ST.new (w.alloc (.cells (sc (.slice p n c) g en 0 0) 69)) (.slice none 0 0) 0 (fun _ => false) 0 0
  rwa [World.size_alloc] at this
 have hB0 : Below b w W0 := by rw [hW, hb]; exact ((Below.refl _ w).alloc (Nat.le_refl _) _).alloc (by simp) _
 have hX0 : RRow W0 0 (.slice p n c) n xs := by rw [hW]; exact row_alloc (row_alloc hrow _) _
 have HS := Lib.hid hS
 have HZ := Lib.hid hZ
 have HB0 := Lib.hid hB0
 have HRW := Lib.hid hrow
 have HX0 := Lib.hid hX0
 have HW := Lib.hid hW
 have HB := Lib.hid hb
 have HN := Lib.hid hn
 clear hS hZ hB0 hX0 hrow hW hb hn hsz2
 generalize hC0 : sc (.slice none 0 0) 0 (fun _ => false) 0 0 = C0 at hz HW
 generalize hC1 : sc (.slice p n c) g en 0 0 = C1 at HW ⊢
 go_enter Tryz.func56, Tryz.ntmps56
 go_upto_region 1 with fail
 rw [← HW.out, ← HB.out]
 clear HW hz hC0
 subst hC1
 have ew1 : IntKind.i64.wrap ((i : Int) + 1) = (i : Int) + 1 := by simp [IntKind.wrap, IntKind.signed, IntKind.bits]; omega
 have ew2 : IntKind.i64.wrap ((i : Int) + 2) = (i : Int) + 2 := by simp [IntKind.wrap, IntKind.signed, IntKind.bits]; omega
 obtain ⟨k1, hk1⟩ : ∃ k, k = ah s i [42] := ⟨_, rfl⟩
 obtain ⟨k2, hk2⟩ : ∃ k, k = ah s i [92, 123] := ⟨_, rfl⟩
 have K1 := Lib.hid hk1
 have K2 := Lib.hid hk2
 clear hk1 hk2
 go_upto_block 0 with fail
 go_cut [8, 9, 10] (fun av bv kv wx => ∃ (a z : Int) (k : Nat), av = .int .i64 a ∧ bv = .int .i64 z ∧ kv = .int .i64 (k : Int) ∧ k ≤ s.length ∧ Hid (R = if isTimesP s k then .error (43, k) else .ok ((BRd.to ⟨i, xs, g, en⟩ k).pu ⟨6, 0, 0, 0, 0, (xs.length : Int) - 1, 0, a, z, 0⟩)) ∧ wx = W0)
 case first =>
  go_upto_region 5 with fail
  go_cut [13] (fun v wx => v = .bool k1 ∧ wx = W0)
  case first =>
   clear HR HS HZ HB0 HX0
   by_cases hlt : i < s.length
   ·have g1 : ((i : Int) < s.length) = True := by simp; omega
    obtain ⟨d, hd⟩ : ∃ d, s[i]? = some d := ⟨_, List.getElem?_eq_getElem hlt⟩
    have xi := fun W => ixm_c s i d hd W
    by_cases k42 : d = 42
    ·subst k42
     obtain rfl : k1 = true := K1.out.trans (by rw [ah_one, hd]; rfl)
     clear K1 hd
     go_wp2_with fail
     go_meet
     exact ⟨rfl, rfl⟩
    ·have c42 : ((d.toNat : Int) == 42) = false := u8_ne (d := 42) k42
     obtain rfl : k1 = false := K1.out.trans (by rw [ah_one, hd]; simpa using k42)
     clear K1 hd k42
     generalize d.toNat = D at *
     go_wp2_with fail
     go_meet
     exact ⟨rfl, rfl⟩
   ·have g1 : ((i : Int) < s.length) = False := by simp; omega
    obtain rfl : k1 = false := K1.out.trans (by rw [ah_one, List.getElem?_eq_none (by omega)]; rfl)
    clear K1
    go_wp2_with fail
    go_meet
    exact ⟨rfl, rfl⟩
  case rest =>
   obtain ⟨rfl, hwc⟩ := hcut
   subst hwc
   cases k1 with
   | true =>
    have hle := ah_le K1.out.symm
    simp only [List.length_cons, List.length_nil] at hle
    have hk : i + 1 ≤ s.length := by
     rcases hle with t | t
     ·exact t
     ·cases t
    have hR2 : R = if isTimesP s (i + 1) then .error (43, i + 1) else .ok ((BRd.to ⟨i, xs, g, en⟩ (i + 1)).pu ⟨6, 0, 0, 0, 0, (xs.length : Int) - 1, 0, 0, -1, 0⟩) := by
     rw [HR.out]
     unfold behU
     have ht : isTimesP s i = true := by unfold isTimesP; rw [← K1.out]; rfl
     have hp : timesP s i = some (0, -1, i + 1) := by unfold timesP; rw [if_pos K1.out.symm]
     simp only [ht, hp]
     rfl
    have HR2 := Lib.hid hR2
    clear hR2 HR HS HZ HB0 HX0 K1 K2 hle HN
    go_wp2_with fail
    go_meet
    exact ⟨0, -1, i + 1, rfl, rfl, by simp, hk, HR2, rfl⟩
   | false =>
    cases k2 with
    | true =>
     have hle := ah_le K2.out.symm
     simp only [List.length_cons, List.length_nil] at hle
     have hk : i + 2 ≤ s.length := by
      rcases hle with t | t
      ·exact t
      ·cases t
     have g1 : ((i : Int) + 1 < s.length) = True := by simp; omega
     have xq := fun W => sl2_c s i (by omega) W
     have hq := two_eq s i 92 123
     rw [← K2.out] at hq
     have hTP := timesU_P s i K1.out.symm K2.out.symm
     have ht : isTimesP s i = true := by unfold isTimesP; rw [← K1.out, ← K2.out]; rfl
     have hT := fun w => timesU_bre s hs (i + 2) hk w
     have hR2 : R = (match timesU s (i + 2) [92, 125] with
       | none => .error (43, i)
       | some (a, b, k) => if isTimesP s k then .error (43, k) else .ok ((BRd.to ⟨i, xs, g, en⟩ k).pu ⟨6, 0, 0, 0, 0, (xs.length : Int) - 1, 0, a, b, 0⟩)) := by
      rw [HR.out]
      unfold behU
      simp only [ht, hTP]
      rfl
     have hkl : ∀ a b k, timesU s (i + 2) [92, 125] = some (a, b, k) → k ≤ s.length := fun a b k e => (timesP_le hp (hTP.trans e)).2
     rw [Int.natCast_add] at hT
     generalize (⟨((s.drop i).take 2).toArray⟩ : ByteArray) = X at *
     generalize timesU s (i + 2) [92, 125] = tu at *
     have HT := Lib.hid hT
     have HR2 := Lib.hid hR2
     have HKL := Lib.hid hkl
     clear hTP hT hR2 hkl HR K1 K2 hle ht HN
     go_wp2_with fail
     refine (HT.out _).mono ?_
     rintro e w1 ⟨hto, hw1⟩
     subst hw1
     clear HT
     cases tu with
     | none =>
      obtain rfl := (show e = _ from hto)
      have HR3 : Hid (R = .error (43, i)) := HR2
      clear HR2 HKL hto
      go_upto_region 10 with fail
      refine wp_region_lit ?_
      refine wpl_load_st HS.out rfl rfl rfl ?_
      try simp only [Act.put, laS]
      go_wp2_with fail
      refine (wrongU_c p n c g en 0 0 i 43 _).mono ?_
      rintro e w2 ⟨rfl, hB2⟩
      have hsW := s0
      have HZ2 := HZ.out.below hB2 (by omega)
      have S0 := HZ2.storeCells (v' := .slice p n c) rfl g en i 43
      have q := (HZ2.put (.slice p n c) g en i 43).load
      have HQ := Lib.hid q
      have HB3 := Lib.hid (Below.setRow (HB0.out.trans (hB2.mono (by omega))) (show b ≤ b + 1 by omega) (sc (.slice p n c) g en i 43))
      clear q HS HZ HB0 HX0 hB2 HZ2
      go_wp2_with fail
      have q := HQ.out
      exact bodyPost_ret (v := .tuple #[.agg (sc (.slice p n c) g en i 43), .int .i64 i]) (by simp [results, Tryz.results56, asAddr, Result.andThen, q]) rfl (SOut.er HR3.out rfl (HB.out ▸ HB3.out))
     | some t =>
      obtain ⟨a, z, k⟩ := t
      obtain rfl := (show e = _ from hto)
      have HR3 : Hid (R = if isTimesP s k then .error (43, k) else .ok ((BRd.to ⟨i, xs, g, en⟩ k).pu ⟨6, 0, 0, 0, 0, (xs.length : Int) - 1, 0, a, z, 0⟩)) := HR2
      have hkl2 := HKL.out a z k rfl
      clear HR2 HKL hto HS HZ HB0 HX0
      go_wp2_with fail
      go_meet
      exact ⟨a, z, k, rfl, rfl, rfl, hkl2, HR3, rfl⟩
    | false =>
     have hR2 : R = .ok ⟨i, xs, g, en⟩ := by
      rw [HR.out]
      unfold behU
      have ht : isTimesP s i = false := by unfold isTimesP; rw [← K1.out, ← K2.out]; rfl
      simp only [ht]
      rfl
     have HR2 := Lib.hid hR2
     clear hR2 HR
     by_cases h1l : i + 1 < s.length
     ·have g1 : ((i : Int) + 1 < s.length) = True := by simp; omega
      have xq := fun W => sl2_c s i (by omega) W
      have hq := two_eq s i 92 123
      rw [← K2.out] at hq
      generalize (⟨((s.drop i).take 2).toArray⟩ : ByteArray) = X at *
      clear K1 K2
      go_upto_region 4 with fail
      refine wp_region_lit ?_
      refine wpl_load_st HS.out rfl rfl rfl ?_
      try simp only [Act.put, laS]
      have S0 := HZ.out.storeCells (v' := .slice p n c) rfl g en 0 0
      have q := (HZ.out.put (.slice p n c) g en 0 0).load
      have HQ := Lib.hid q
      have HB3 := Lib.hid (Below.setRow HB0.out (show b ≤ b + 1 by omega) (sc (.slice p n c) g en 0 0))
      clear q HS HZ HB0 HX0
      go_wp2_with fail
      have q := HQ.out
      exact bodyPost_ret (v := .tuple #[.agg (sc (.slice p n c) g en 0 0), .int .i64 i]) (by simp [results, Tryz.results56, asAddr, Result.andThen, q]) rfl (SOut.ok HR2.out HN.out rfl rfl rfl (row_below HRW.out (HB.out ▸ HB3.out)) (HB.out ▸ HB3.out))
     ·have g1 : ((i : Int) + 1 < s.length) = False := by simp; omega
      clear K1 K2
      go_upto_region 4 with fail
      refine wp_region_lit ?_
      refine wpl_load_st HS.out rfl rfl rfl ?_
      try simp only [Act.put, laS]
      have S0 := HZ.out.storeCells (v' := .slice p n c) rfl g en 0 0
      have q := (HZ.out.put (.slice p n c) g en 0 0).load
      have HQ := Lib.hid q
      have HB3 := Lib.hid (Below.setRow HB0.out (show b ≤ b + 1 by omega) (sc (.slice p n c) g en 0 0))
      clear q HS HZ HB0 HX0
      go_wp2_with fail
      have q := HQ.out
      exact bodyPost_ret (v := .tuple #[.agg (sc (.slice p n c) g en 0 0), .int .i64 i]) (by simp [results, Tryz.results56, asAddr, Result.andThen, q]) rfl (SOut.ok HR2.out HN.out rfl rfl rfl (row_below HRW.out (HB.out ▸ HB3.out)) (HB.out ▸ HB3.out))
 case rest =>
  obtain ⟨a, z, k, rfl, rfl, rfl, hk, HR2, hwc⟩ := hcut
  subst hwc
  have c0 : wc.cell? ⟨b, 0, none⟩ = some (.slice p n c) := HS.out.cell 0
  have ewn : IntKind.i64.wrap ((n : Int) - 1) = (n : Int) - 1 := by simp [IntKind.wrap, IntKind.signed, IntKind.bits]; omega
  have hlf := fun w (h : RRow w 0 (.slice p n c) n xs) => leafU_c p n c g en 0 0 ⟨6, 0, 0, 0, 0, (n : Int) - 1, 0, a, z, 0⟩ xs (by omega) w h
  unfold Nd.cells at hlf
  dsimp only at hlf
  have HLF := Lib.hid hlf
  obtain ⟨tk, htk⟩ : ∃ t, t = isTimesP s k := ⟨_, rfl⟩
  have HTK := Lib.hid htk
  clear hlf htk ew1 ew2 HR K1 K2
  have ew1 : IntKind.i64.wrap ((k : Int) + 1) = (k : Int) + 1 := by simp [IntKind.wrap, IntKind.signed, IntKind.bits]; omega
  have ew2 : IntKind.i64.wrap ((k : Int) + 2) = (k : Int) + 2 := by simp [IntKind.wrap, IntKind.signed, IntKind.bits]; omega
  go_upto_region 11 with fail
  refine wp_region_lit ?_
  refine wpl_load_st HS.out rfl rfl rfl ?_
  try simp only [Act.put, laS]
  go_wp2_with fail
  refine (HLF.out _ HX0.out).mono ?_
  rintro e w2 ⟨p9, c9, rfl, hr9, hB2⟩
  have HS2 := HS.out.below hB2 (by omega)
  have HZ2 := HZ.out.below hB2 (by omega)
  have S0 := HS2.storeCells (v' := .slice p9 (n + 1) c9) rfl g en 0 0
  have hS3 := HS2.put (.slice p9 (n + 1) c9) g en 0 0
  have hZ3 := HZ2.setRow_other (b' := b) (by omega) (sc (.slice p9 (n + 1) c9) g en 0 0)
  have hB3 := Below.setRow (HB0.out.trans (hB2.mono (by omega))) (Nat.le_refl b) (sc (.slice p9 (n + 1) c9) g en 0 0)
  have hr3 := row_row hr9 (show b < wc.heap.size by omega) (sc (.slice p9 (n + 1) c9) g en 0 0)
  rw [s0] at hr3
  clear HS2 HZ2 hr9 hB2 HLF HS HZ HB0 HX0 c0
  go_upto_region 12 with fail
  clear S0
  generalize w2.setRow b (sc (.slice p9 (n + 1) c9) g en 0 0) = W3 at *
  have HS3 := Lib.hid hS3
  have HZ3 := Lib.hid hZ3
  have HB3 := Lib.hid hB3
  have HR3 := Lib.hid hr3
  clear hS3 hZ3 hB3 hr3
  go_cut [87] (fun v wx => v = .bool tk ∧ wx = W3)
  case first =>
   clear HR2 HS3 HZ3 HB3 HR3
   by_cases hlt : k < s.length
   ·have g1 : ((k : Int) < s.length) = True := by simp; omega
    obtain ⟨d, hd⟩ : ∃ d, s[k]? = some d := ⟨_, List.getElem?_eq_getElem hlt⟩
    have xi := fun W => ixm_c s k d hd W
    by_cases k42 : d = 42
    ·subst k42
     obtain rfl : tk = true := HTK.out.trans (by unfold isTimesP; rw [ah_one, hd]; rfl)
     clear HTK hd
     go_wp2_with fail
     go_meet
     exact ⟨rfl, rfl⟩
    ·have c42 : ((d.toNat : Int) == 42) = false := u8_ne (d := 42) k42
     have ht2 : tk = ah s k [92, 123] := HTK.out.trans (by
      unfold isTimesP
      rw [ah_one, hd]
      have : (some d == some (42 : UInt8)) = false := by simpa using k42
      rw [this, Bool.false_or])
     clear HTK
     by_cases h1l : k + 1 < s.length
     ·have g2 : ((k : Int) + 1 < s.length) = True := by simp; omega
      have xq := fun W => sl2_c s k (by omega) W
      have hq := two_eq s k 92 123
      rw [← ht2] at hq
      clear ht2 hd k42
      generalize (⟨((s.drop k).take 2).toArray⟩ : ByteArray) = X at *
      generalize d.toNat = D at *
      cases tk with
      | true =>
       go_wp2_with fail
       go_meet
       exact ⟨rfl, rfl⟩
      | false =>
       go_wp2_with fail
       go_meet
       exact ⟨rfl, rfl⟩
     ·have g2 : ((k : Int) + 1 < s.length) = False := by simp; omega
      obtain rfl : tk = false := ht2.trans (by rw [ah_two, List.getElem?_eq_none (show s.length ≤ k + 1 by omega)]; simp)
      clear ht2 hd k42
      generalize d.toNat = D at *
      go_wp2_with fail
      go_meet
      exact ⟨rfl, rfl⟩
   ·have g1 : ((k : Int) < s.length) = False := by simp; omega
    have g2 : ((k : Int) + 1 < s.length) = False := by simp; omega
    obtain rfl : tk = false := HTK.out.trans (by unfold isTimesP; rw [ah_one, ah_two, List.getElem?_eq_none (by omega)]; rfl)
    clear HTK
    go_wp2_with fail
    go_meet
    exact ⟨rfl, rfl⟩
  case rest =>
   obtain ⟨rfl, hwc⟩ := hcut
   obtain ⟨W3', hW3⟩ : ∃ W, W = W3 := ⟨_, rfl⟩
   subst hwc
   have hR2 := HR2.out
   rw [← HTK.out] at hR2
   cases tk with
   | true =>
    have HR4 : Hid (R = .error (43, k)) := Lib.hid (hR2.trans (if_pos rfl))
    clear hR2 HR2 HTK
    go_upto_region 13 with fail
    refine wp_region_lit ?_
    refine wpl_load_st HS3.out rfl rfl rfl ?_
    try simp only [Act.put, laS]
    go_wp2_with fail
    refine (wrongU_c p9 (n + 1) c9 g en 0 0 k 43 _).mono ?_
    rintro e w4 ⟨rfl, hB4⟩
    have HZ4 := HZ3.out.below hB4 (HZ3.out.lt)
    have S0 := HZ4.storeCells (v' := .slice p9 (n + 1) c9) rfl g en k 43
    have q := (HZ4.put (.slice p9 (n + 1) c9) g en k 43).load
    have HQ := Lib.hid q
    have hb3 := HZ3.out.lt
    have HB4 := Lib.hid (Below.setRow (HB3.out.trans (hB4.mono (by omega))) (show b ≤ b + 1 by omega) (sc (.slice p9 (n + 1) c9) g en k 43))
    clear q HS3 HZ3 HB3 HR3 hB4 HZ4 hb3
    go_wp2_with fail
    have q := HQ.out
    exact bodyPost_ret (v := .tuple #[.agg (sc (.slice p9 (n + 1) c9) g en k 43), .int .i64 k]) (by simp [results, Tryz.results56, asAddr, Result.andThen, q]) rfl (SOut.er HR4.out rfl (HB.out ▸ HB4.out))
   | false =>
    have HR4 : Hid (R = .ok ((BRd.to ⟨i, xs, g, en⟩ k).pu ⟨6, 0, 0, 0, 0, (n : Int) - 1, 0, a, z, 0⟩)) := Lib.hid (by rw [hR2, if_neg (by decide), HN.out])
    clear hR2 HR2 HTK
    go_upto_region 14 with fail
    refine wp_region_lit ?_
    refine wpl_load_st HS3.out rfl rfl rfl ?_
    try simp only [Act.put, laS]
    have S0 := HZ3.out.storeCells (v' := .slice p9 (n + 1) c9) rfl g en 0 0
    have q := (HZ3.out.put (.slice p9 (n + 1) c9) g en 0 0).load
    have HQ := Lib.hid q
    have HB4 := Lib.hid (Below.setRow HB3.out (show b ≤ b + 1 by omega) (sc (.slice p9 (n + 1) c9) g en 0 0))
    have HR5 := Lib.hid (row_row HR3.out (show b + 1 < b + 2 by omega) (sc (.slice p9 (n + 1) c9) g en 0 0))
    clear q HS3 HZ3 HB3 HR3
    go_wp2_with fail
    have q := HQ.out
    exact bodyPost_ret (v := .tuple #[.agg (sc (.slice p9 (n + 1) c9) g en 0 0), .int .i64 k]) (by simp [results, Tryz.results56, asAddr, Result.andThen, q]) rfl (SOut.ok HR4.out (by rw [HN.out]; simp [BRd.pu, BRd.to]) rfl rfl rfl (row_weak HR5.out (Nat.zero_le _)) (HB.out ▸ HB4.out))
end Go.Proofs.YtkcbknfhckomcaaGreatDoor
