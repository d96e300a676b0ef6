/- PieceBack, PieceAgain, PieceEnds: the walks. -/
import Derived.Test.YtagjoebggghknaaDoorPcK
namespace Go.Proofs.YtagjoebggghknaaDoor
open Go.RowKit
set_option linter.unusedVariables false
set_option linter.unusedSimpArgs false

theorem tk_len (d : UInt8) (h1 : d ≠ 92) (h2 : d ≠ 10) {l t : List UInt8} {n : Nat} (h : tkP d l = some (t, n)) : t.length ≤ n ∧ n ≤ l.length := by
  obtain ⟨_, a2, _, _⟩ := tk_ends d h1 h2 _ l (Nat.le_refl _) t n h
  refine ⟨?_, a2⟩
  have h3 := rd_tk d h1 h2 _ l (Nat.le_refl _)
  rw [h] at h3
  have h4 := (rd_le (endD d) (pairD d) (pair_len d) _ l (Nat.le_refl _)).2
  split at h3
  · injection h3 with h3
    simp only [Prod.mk.injEq] at h3
    rw [h3.1, h3.2]; omega
  · cases h3
theorem tkD_some {d : UInt8} {l t : List UInt8} {n : Nat} (h : tkD d l = some (t, n)) : d ≠ 92 ∧ d ≠ 10 ∧ tkP d l = some (t, n) := by
  unfold tkD at h
  split at h
  · cases h
  · rename_i hd
    exact ⟨fun e => hd (.inl e), fun e => hd (.inr e), h⟩
theorem tkD_of {d : UInt8} (h1 : d ≠ 92) (h2 : d ≠ 10) (l : List UInt8) : tkD d l = tkP d l := by
  unfold tkD; rw [if_neg (by rintro (h | h); exact h1 h; exact h2 h)]
theorem gvD_some {d : UInt8} {t g : List UInt8} (h : gvD d t = some g) : d ≠ 92 ∧ d ≠ 10 ∧ g = gvT d t ∧ okT d t = true := by
  unfold gvD at h
  split at h
  · cases h
  · rename_i hd
    split at h
    · rename_i ho
      injection h with h
      exact ⟨fun e => hd (.inl e), fun e => hd (.inr e), h.symm, ho⟩
    · cases h
theorem below_one (w : World) (d : UInt8) : Below w.heap.size w (w.alloc (.cells #[.int .u8 d.toNat] 5)) := (Below.refl _ w).alloc (Nat.le_refl _) _

set_option maxRecDepth 100000 in
set_option maxHeartbeats 8000000 in
theorem backW (S R : ByteArray) (n : Nat) (hS : S.size ≤ reachBytes) (hR : R.size ≤ reachBytes) (hn : n < 256) (w : World) (hm : MaxL w) :
    Calls Tryd.prog 6 #[.string S, .string R, .int .u8 n] w fun e w' => e = .returned (.bool true) ∧ Below w.heap.size w w' := by
  obtain ⟨d, hd⟩ : ∃ d : UInt8, d.toNat = n := ⟨UInt8.ofNat n, by rw [UInt8.toNat_ofNat']; omega⟩
  rw [← hd]
  clear hd
  have HS := Lib.hid (fun w hm => shown_c w hm)
  have HM := Lib.hid hm
  by_cases hbS : 300 < S.size
  · have hiS : (300 : Int) < (S.size : Int) := by omega
    clear hm
    go_enter Tryd.func6, Tryd.ntmps6
    go_wp2_with fail
    refine (HS.out _ HM.out).mono ?_
    rintro e w1 ⟨rfl, hB1⟩
    go_wp2
    go_ret
    exact ⟨rfl, hB1⟩
  have hiS : ¬ (300 : Int) < (S.size : Int) := by omega
  by_cases hbR : 300 < R.size
  · have hiR : (300 : Int) < (R.size : Int) := by omega
    clear hm
    go_enter Tryd.func6, Tryd.ntmps6
    go_wp2_with fail
    refine (HS.out _ HM.out).mono ?_
    rintro e w1 ⟨rfl, hB1⟩
    go_wp2
    go_ret
    exact ⟨rfl, hB1⟩
  have hiR : ¬ (300 : Int) < (R.size : Int) := by omega
  obtain ⟨l, hl⟩ : ∃ l, l = S.data.toList := ⟨_, rfl⟩
  have HLL := Lib.hid (show l.length = S.size by rw [hl]; simp)
  have c1 := fun w hm => give_c S d (by omega) w hm
  have c5 := fun w hm => untext_c S (by omega) w hm
  rw [← hl] at c1 c5
  cases hg : gvD d l with
  | none =>
    rw [hg] at c1
    have c1b : ∀ w, MaxL w → Calls Tryd.prog 12 #[.string S, .int .u8 d.toNat] w fun e w' => e = .returned (.tuple #[.string ⟨#[]⟩, .int .i64 1]) ∧ Below w.heap.size w w' := c1
    have C1 := Lib.hid c1b
    clear c1 c1b hg hm
    go_enter Tryd.func6, Tryd.ntmps6
    go_wp2_with fail
    refine (HS.out _ HM.out).mono ?_
    rintro e w1 ⟨rfl, hB1⟩
    have HB1 := Lib.hid hB1
    clear hB1
    go_wp2_with fail
    refine (C1.out _ (HM.out.below HB1.out)).mono ?_
    rintro e w2 ⟨rfl, hB2⟩
    have HB2 := Lib.hid (HB1.out.trans (hB2.mono HB1.out.size))
    clear hB2
    cases hu : utD l with
    | none =>
      rw [hu] at c5
      have c5b : ∀ w, MaxL w → Calls Tryd.prog 22 #[.string S] w fun e w' => e = .returned (.tuple #[.string ⟨#[]⟩, .int .i64 1]) ∧ Below w.heap.size w w' := c5
      have C5 := Lib.hid c5b
      clear c5 c5b hu hl
      go_wp2_with fail
      refine (C5.out _ (HM.out.below HB2.out)).mono ?_
      rintro e w3 ⟨rfl, hB3⟩
      have HB3 := Lib.hid (HB2.out.trans (hB3.mono HB2.out.size))
      clear hB3
      go_wp2
      go_ret
      exact ⟨rfl, HB3.out⟩
    | some u =>
      rw [hu] at c5
      obtain ⟨U, hU⟩ : ∃ U : ByteArray, U = ⟨u.toArray⟩ := ⟨_, rfl⟩
      have c5b : ∀ w, MaxL w → Calls Tryd.prog 22 #[.string S] w fun e w' => e = .returned (.tuple #[.string U, .int .i64 0]) ∧ Below w.heap.size w w' := fun w h => by rw [hU]; exact c5 w h
      have hul : l.getLast? = some 10 ∧ u = utP true l.dropLast := by
        unfold utD at hu
        split at hu
        · rename_i q; injection hu with hu; exact ⟨q, hu.symm⟩
        · cases hu
      obtain ⟨hl10, hu2⟩ := hul
      have hlm : l.dropLast ++ [10] = l := by
        obtain ⟨r, hr⟩ := List.getLast?_eq_some_iff.1 hl10
        rw [hr]; simp
      have hUs : U.size = u.length := by rw [hU, ba_size]
      have hus : u.length ≤ 2 * S.size := by
        have h3 := ut_len l.dropLast true
        rw [← hu2, List.length_dropLast] at h3
        have := HLL.out
        omega
      obtain ⟨Y, hY⟩ : ∃ Y : ByteArray, Y = ⟨l.toArray⟩ := ⟨_, rfl⟩
      obtain ⟨p1, p2, p3⟩ := str_eq_yes Y l S hl hY
      have hbu1 : (9223372036854775807 < U.size + 1) = False := by simp; omega
      have hbu2 : (9223372036854775807 < (U.size : Int) + 1) = False := by simp; omega
      have hbu3 : (9223372036854775807 < U.size + 1 + R.size) = False := by simp; omega
      have hbu4 : (9223372036854775807 < (U.size : Int) + 1 + (R.size : Int)) = False := by simp; omega
      have c6 := fun w => text_c (U ++ ⟨#[10]⟩ ++ R) 0 (by rw [ByteArray.size_append, ByteArray.size_append, show (⟨#[10]⟩ : ByteArray).size = 1 from rfl]; omega) w
      have c7 := fun w => text_c U 0 (by omega) w
      have e6 : txAt (U ++ ⟨#[10]⟩ ++ R) 0 = .tuple #[.string Y, .int .i64 ((U.size : Int) + 1), .int .i64 0] := by
        rw [txAt_0, show (U ++ ⟨#[10]⟩ ++ R).data.toList = u ++ 10 :: R.data.toList by rw [hU]; simp, hu2, tx_ut]
        simp only [txV]
        rw [hlm, hY, ← hu2, hUs]
        simp
      have e7 : txAt U 0 = .tuple #[.string Y, .int .i64 (U.size : Int), .int .i64 0] := by
        rw [txAt_0, show U.data.toList = u by rw [hU], hu2, tx_ut0]
        simp only [txV]
        rw [hlm, hY, ← hu2, hUs]
        simp
      rw [e6] at c6
      rw [e7] at c7
      have hUb : U.size ≤ 1000 := by omega
      have C5 := Lib.hid c5b
      have C6 := Lib.hid c6
      have C7 := Lib.hid c7
      clear c5 c5b c6 c7 e6 e7 hu hl hU hl10 hu2 hlm hUs hY hus hbu1 hbu2 hbu3 hbu4
      have hbu1 : (9223372036854775807 < U.size + 1) = False := by simp; omega
      have hbu2 : (9223372036854775807 < (U.size : Int) + 1) = False := by simp; omega
      have hbu3 : (9223372036854775807 < U.size + 1 + R.size) = False := by simp; omega
      have hbu4 : (9223372036854775807 < (U.size : Int) + 1 + (R.size : Int)) = False := by simp; omega
      go_wp2_with fail
      refine (C5.out _ (HM.out.below HB2.out)).mono ?_
      rintro e w3 ⟨rfl, hB3⟩
      have HB3 := Lib.hid (HB2.out.trans (hB3.mono HB2.out.size))
      clear hB3
      go_wp2_with fail
      refine (C6.out _).mono ?_
      rintro e w4 ⟨rfl, hB4⟩
      have HB4 := Lib.hid (HB3.out.trans (hB4.mono HB3.out.size))
      clear hB4
      go_wp2_with fail
      refine (C7.out _).mono ?_
      rintro e w5 ⟨rfl, hB5⟩
      have HB5 := Lib.hid (HB4.out.trans (hB5.mono HB4.out.size))
      clear hB5
      go_wp2
      go_ret
      exact ⟨rfl, HB5.out⟩
  | some g =>
    rw [hg] at c1
    obtain ⟨G, hG⟩ : ∃ G : ByteArray, G = ⟨g.toArray⟩ := ⟨_, rfl⟩
    have c1b : ∀ w, MaxL w → Calls Tryd.prog 12 #[.string S, .int .u8 d.toNat] w fun e w' => e = .returned (.tuple #[.string G, .int .i64 0]) ∧ Below w.heap.size w w' := fun w h => by rw [hG]; exact c1 w h
    obtain ⟨hd1, hd2, hgt, hok⟩ := gvD_some hg
    obtain ⟨ga, _, _⟩ := gv_all d hd1 hd2 _ l (Nat.le_refl _) hok
    rw [← hgt] at ga
    have hGs : G.size = g.length := by rw [hG, ba_size]
    have hgs : g.length ≤ 2 * S.size := by
      have := gvT_len d _ l (Nat.le_refl _)
      rw [← hgt] at this
      have := HLL.out
      omega
    obtain ⟨D, hD⟩ : ∃ D : ByteArray, D = ⟨#[d]⟩ := ⟨_, rfl⟩
    have hDs : D.size = 1 := by rw [hD]; rfl
    obtain ⟨Z, hZ⟩ : ∃ Z : ByteArray, Z = ⟨l.toArray⟩ := ⟨_, rfl⟩
    obtain ⟨z1, z2, z3⟩ := str_eq_yes Z l S hl hZ
    have hbg1 : (9223372036854775807 < G.size + D.size) = False := by simp; omega
    have hbg2 : (9223372036854775807 < (G.size : Int) + (D.size : Int)) = False := by simp; omega
    have hbg3 : (9223372036854775807 < G.size + D.size + R.size) = False := by simp; omega
    have hbg4 : (9223372036854775807 < (G.size : Int) + (D.size : Int) + (R.size : Int)) = False := by simp; omega
    have c2 := fun w => take_c (G ++ D ++ R) 0 d (by simp; omega) w
    have e2 : tkAt (G ++ D ++ R) 0 d = .tuple #[.string Z, .int .i64 ((G.size : Int) + 1), .int .i64 0] := by
      rw [tkAt_0, show (G ++ D ++ R).data.toList = g ++ d :: R.data.toList by rw [hG, hD]; simp, tkD_of hd1 hd2, tk_rest hd1 hd2 ga]
      simp only [tkV]
      rw [hZ, hGs]
      simp
    rw [e2] at c2
    have hrow := fun w => one_back d w D hD
    have hGb : G.size ≤ 1000 := by omega
    have C1 := Lib.hid c1b
    have C2 := Lib.hid c2
    clear c1 c1b c2 e2 hg hm hG hd1 hd2 hgt hok ga hGs hgs hZ hD hDs
    go_enter Tryd.func6, Tryd.ntmps6
    go_wp2_with fail
    refine (HS.out _ HM.out).mono ?_
    rintro e w1 ⟨rfl, hB1⟩
    have HB1 := Lib.hid hB1
    clear hB1
    go_wp2_with fail
    refine (C1.out _ (HM.out.below HB1.out)).mono ?_
    rintro e w2 ⟨rfl, hB2⟩
    have HB2 := Lib.hid (HB1.out.trans (hB2.mono HB1.out.size))
    clear hB2
    have hA2 := below_one w2 d
    have HB3 := Lib.hid (HB2.out.trans (hA2.mono HB2.out.size))
    clear hA2
    go_wp2_with fail
    refine (C2.out _).mono ?_
    rintro e w4 ⟨rfl, hB4⟩
    have HB4 := Lib.hid (HB3.out.trans (hB4.mono HB3.out.size))
    clear hB4
    cases hu : utD l with
    | none =>
      rw [hu] at c5
      have c5b : ∀ w, MaxL w → Calls Tryd.prog 22 #[.string S] w fun e w' => e = .returned (.tuple #[.string ⟨#[]⟩, .int .i64 1]) ∧ Below w.heap.size w w' := c5
      have C5 := Lib.hid c5b
      clear c5 c5b hu hl
      go_wp2_with fail
      refine (C5.out _ (HM.out.below HB4.out)).mono ?_
      rintro e w5 ⟨rfl, hB5⟩
      have HB5 := Lib.hid (HB4.out.trans (hB5.mono HB4.out.size))
      clear hB5
      go_wp2
      go_ret
      exact ⟨rfl, HB5.out⟩
    | some u =>
      rw [hu] at c5
      obtain ⟨U, hU⟩ : ∃ U : ByteArray, U = ⟨u.toArray⟩ := ⟨_, rfl⟩
      have c5b : ∀ w, MaxL w → Calls Tryd.prog 22 #[.string S] w fun e w' => e = .returned (.tuple #[.string U, .int .i64 0]) ∧ Below w.heap.size w w' := fun w h => by rw [hU]; exact c5 w h
      have hul : l.getLast? = some 10 ∧ u = utP true l.dropLast := by
        unfold utD at hu
        split at hu
        · rename_i q; injection hu with hu; exact ⟨q, hu.symm⟩
        · cases hu
      obtain ⟨hl10, hu2⟩ := hul
      have hlm : l.dropLast ++ [10] = l := by
        obtain ⟨r, hr⟩ := List.getLast?_eq_some_iff.1 hl10
        rw [hr]; simp
      have hUs : U.size = u.length := by rw [hU, ba_size]
      have hus : u.length ≤ 2 * S.size := by
        have h3 := ut_len l.dropLast true
        rw [← hu2, List.length_dropLast] at h3
        have := HLL.out
        omega
      obtain ⟨Y, hY⟩ : ∃ Y : ByteArray, Y = ⟨l.toArray⟩ := ⟨_, rfl⟩
      obtain ⟨p1, p2, p3⟩ := str_eq_yes Y l S hl hY
      have hbu1 : (9223372036854775807 < U.size + 1) = False := by simp; omega
      have hbu2 : (9223372036854775807 < (U.size : Int) + 1) = False := by simp; omega
      have hbu3 : (9223372036854775807 < U.size + 1 + R.size) = False := by simp; omega
      have hbu4 : (9223372036854775807 < (U.size : Int) + 1 + (R.size : Int)) = False := by simp; omega
      have c6 := fun w => text_c (U ++ ⟨#[10]⟩ ++ R) 0 (by rw [ByteArray.size_append, ByteArray.size_append, show (⟨#[10]⟩ : ByteArray).size = 1 from rfl]; omega) w
      have c7 := fun w => text_c U 0 (by omega) w
      have e6 : txAt (U ++ ⟨#[10]⟩ ++ R) 0 = .tuple #[.string Y, .int .i64 ((U.size : Int) + 1), .int .i64 0] := by
        rw [txAt_0, show (U ++ ⟨#[10]⟩ ++ R).data.toList = u ++ 10 :: R.data.toList by rw [hU]; simp, hu2, tx_ut]
        simp only [txV]
        rw [hlm, hY, ← hu2, hUs]
        simp
      have e7 : txAt U 0 = .tuple #[.string Y, .int .i64 (U.size : Int), .int .i64 0] := by
        rw [txAt_0, show U.data.toList = u by rw [hU], hu2, tx_ut0]
        simp only [txV]
        rw [hlm, hY, ← hu2, hUs]
        simp
      rw [e6] at c6
      rw [e7] at c7
      have hUb : U.size ≤ 1000 := by omega
      have C5 := Lib.hid c5b
      have C6 := Lib.hid c6
      have C7 := Lib.hid c7
      clear c5 c5b c6 c7 e6 e7 hu hl hU hl10 hu2 hlm hUs hY hus hbu1 hbu2 hbu3 hbu4
      have hbu1 : (9223372036854775807 < U.size + 1) = False := by simp; omega
      have hbu2 : (9223372036854775807 < (U.size : Int) + 1) = False := by simp; omega
      have hbu3 : (9223372036854775807 < U.size + 1 + R.size) = False := by simp; omega
      have hbu4 : (9223372036854775807 < (U.size : Int) + 1 + (R.size : Int)) = False := by simp; omega
      go_wp2_with fail
      refine (C5.out _ (HM.out.below HB4.out)).mono ?_
      rintro e w5 ⟨rfl, hB5⟩
      have HB5 := Lib.hid (HB4.out.trans (hB5.mono HB4.out.size))
      clear hB5
      go_wp2_with fail
      refine (C6.out _).mono ?_
      rintro e w6 ⟨rfl, hB6⟩
      have HB6 := Lib.hid (HB5.out.trans (hB6.mono HB5.out.size))
      clear hB6
      go_wp2_with fail
      refine (C7.out _).mono ?_
      rintro e w7 ⟨rfl, hB7⟩
      have HB7 := Lib.hid (HB6.out.trans (hB7.mono HB6.out.size))
      clear hB7
      go_wp2
      go_ret
      exact ⟨rfl, HB7.out⟩

set_option maxRecDepth 100000 in
set_option maxHeartbeats 8000000 in
theorem againW (S : ByteArray) (p n : Nat) (hS : S.size ≤ reachBytes) (hp : p < 65536) (hn : n < 256) (w : World) (hm : MaxL w) :
    Calls Tryd.prog 7 #[.string S, .int .u16 p, .int .u8 n] w fun e w' => e = .returned (.bool true) ∧ Below w.heap.size w w' := by
  obtain ⟨d, hd⟩ : ∃ d : UInt8, d.toNat = n := ⟨UInt8.ofNat n, by rw [UInt8.toNat_ofNat']; omega⟩
  rw [← hd]
  clear hd
  have HS := Lib.hid (fun w hm => shown_c w hm)
  have HM := Lib.hid hm
  by_cases hbS : 300 < S.size
  · have hiS : (300 : Int) < (S.size : Int) := by omega
    clear hm
    go_enter Tryd.func7, Tryd.ntmps7
    go_wp2_with fail
    refine (HS.out _ HM.out).mono ?_
    rintro e w1 ⟨rfl, hB1⟩
    go_wp2
    go_ret
    exact ⟨rfl, hB1⟩
  have hiS : ¬ (300 : Int) < (S.size : Int) := by omega
  obtain ⟨l, hl⟩ : ∃ l, l = S.data.toList := ⟨_, rfl⟩
  have hll : l.length = S.size := by rw [hl]; simp
  obtain ⟨k, hk⟩ : ∃ k : Nat, k = p % (S.size + 1) := ⟨_, rfl⟩
  have hkl : k ≤ S.size := by rw [hk]; have := Nat.mod_lt p (show 0 < S.size + 1 by omega); omega
  have hw1 : IntKind.i64.wrap (p : Int) = (p : Int) := by simp [IntKind.wrap, IntKind.signed, IntKind.bits]; omega
  have hm1 : Int.tmod (p : Int) ((S.size : Int) + 1) = (k : Int) := by rw [hk]; rfl
  have hm2 : (p : Int) % ((S.size : Int) + 1) = (k : Int) := by rw [hk]; rfl
  have hz1 : ((S.size : Int) + 1 == 0) = false := by rw [beq_eq_false_iff_ne]; omega
  have hz2 : ¬ ((S.size : Int) + 1 = 0) := by omega
  have c1 := fun w => take_c S (k : Int) d (by omega) w
  unfold tkAt at c1
  rw [plc_self S.size k hkl, ← hl] at c1
  cases hq : tkD d (l.drop k) with
  | none =>
    rw [hq] at c1
    have c1b : ∀ w, Calls Tryd.prog 10 #[.string S, .int .i64 (k : Int), .int .u8 d.toNat] w fun e w' => e = .returned (.tuple #[.string ⟨#[]⟩, .int .i64 (k : Int), .int .i64 120]) ∧ Below w.heap.size w w' := c1
    have C1 := Lib.hid c1b
    clear c1 c1b hq hk hl hll hm
    go_enter Tryd.func7, Tryd.ntmps7
    go_wp2_with fail
    refine (HS.out _ HM.out).mono ?_
    rintro e w1 ⟨rfl, hB1⟩
    have HB1 := Lib.hid hB1
    clear hB1
    go_wp2_with fail
    refine (C1.out _).mono ?_
    rintro e w2 ⟨rfl, hB2⟩
    have HB2 := Lib.hid (HB1.out.trans (hB2.mono HB1.out.size))
    clear hB2
    go_wp2
    go_ret
    exact ⟨rfl, HB2.out⟩
  | some y =>
    obtain ⟨t, m⟩ := y
    rw [hq] at c1
    obtain ⟨hd1, hd2, htk⟩ := tkD_some hq
    obtain ⟨T, hT⟩ : ∃ T : ByteArray, T = ⟨t.toArray⟩ := ⟨_, rfl⟩
    obtain ⟨j, hj⟩ : ∃ j : Nat, j = k + m := ⟨_, rfl⟩
    have c1b : ∀ w, Calls Tryd.prog 10 #[.string S, .int .i64 (k : Int), .int .u8 d.toNat] w fun e w' => e = .returned (.tuple #[.string T, .int .i64 (j : Int), .int .i64 0]) ∧ Below w.heap.size w w' := fun w => by rw [hT, hj]; exact c1 w
    obtain ⟨ht1, ht2⟩ := tk_len d hd1 hd2 htk
    have hok := tk_ok d hd1 hd2 _ _ (Nat.le_refl _) t m htk
    obtain ⟨ga, _, _⟩ := gv_all d hd1 hd2 _ t (Nat.le_refl _) hok
    have hgl := gvT_len d _ t (Nat.le_refl _)
    rw [List.length_drop, hll] at ht2
    have hTs : T.size = t.length := by rw [hT, ba_size]
    have hTd : T.data.toList = t := by rw [hT]
    obtain ⟨G, hG⟩ : ∃ G : ByteArray, G = ⟨(gvT d t).toArray⟩ := ⟨_, rfl⟩
    have hGs : G.size = (gvT d t).length := by rw [hG, ba_size]
    have c2 := fun w hm => give_c T d (by omega) w hm
    have e2 : gvV (gvD d T.data.toList) = .tuple #[.string G, .int .i64 0] := by
      rw [hTd, hG]; unfold gvD; rw [if_neg (by rintro (h | h); exact hd1 h; exact hd2 h), if_pos hok]; rfl
    rw [e2] at c2
    obtain ⟨D, hD⟩ : ∃ D : ByteArray, D = ⟨#[d]⟩ := ⟨_, rfl⟩
    have hDs : D.size = 1 := by rw [hD]; rfl
    have hbg1 : (9223372036854775807 < G.size + D.size) = False := by simp; omega
    have hbg2 : (9223372036854775807 < (G.size : Int) + (D.size : Int)) = False := by simp; omega
    have c3 := fun w => take_c (G ++ D) 0 d (by simp; omega) w
    have e3 : tkAt (G ++ D) 0 d = .tuple #[.string T, .int .i64 ((G.size : Int) + 1), .int .i64 0] := by
      rw [tkAt_0, show (G ++ D).data.toList = gvT d t ++ [d] by rw [hG, hD]; simp, tkD_of hd1 hd2, ga]
      simp only [tkV]
      rw [hT, hGs]
      simp
    rw [e3] at c3
    have hrow := fun w => one_back d w D hD
    have hGb : G.size ≤ 1000 := by omega
    have C1 := Lib.hid c1b
    have C2 := Lib.hid c2
    have C3 := Lib.hid c3
    clear c1 c1b c2 c3 e2 e3 hq hk hl hll hm hd1 hd2 htk hT hj ht1 ht2 hok ga hgl hTs hTd hG hGs hD hDs
    go_enter Tryd.func7, Tryd.ntmps7
    go_wp2_with fail
    refine (HS.out _ HM.out).mono ?_
    rintro e w1 ⟨rfl, hB1⟩
    have HB1 := Lib.hid hB1
    clear hB1
    go_wp2_with fail
    refine (C1.out _).mono ?_
    rintro e w2 ⟨rfl, hB2⟩
    have HB2 := Lib.hid (HB1.out.trans (hB2.mono HB1.out.size))
    clear hB2
    go_wp2_with fail
    refine (C2.out _ (HM.out.below HB2.out)).mono ?_
    rintro e w3 ⟨rfl, hB3⟩
    have HB3 := Lib.hid (HB2.out.trans (hB3.mono HB2.out.size))
    clear hB3
    have hA2 := below_one w3 d
    have HB4 := Lib.hid (HB3.out.trans (hA2.mono HB3.out.size))
    clear hA2
    go_wp2_with fail
    refine (C3.out _).mono ?_
    rintro e w5 ⟨rfl, hB5⟩
    have HB5 := Lib.hid (HB4.out.trans (hB5.mono HB4.out.size))
    clear hB5
    go_wp2
    go_ret
    exact ⟨rfl, HB5.out⟩

set_option maxRecDepth 100000 in
set_option maxHeartbeats 8000000 in
theorem endsW (S R : ByteArray) (n : Nat) (hS : S.size ≤ reachBytes) (hR : R.size ≤ reachBytes) (hn : n < 256) (w : World) (hm : MaxL w) :
    Calls Tryd.prog 8 #[.string S, .string R, .int .u8 n] w fun e w' => e = .returned (.bool true) ∧ Below w.heap.size w w' := by
  obtain ⟨d, hd⟩ : ∃ d : UInt8, d.toNat = n := ⟨UInt8.ofNat n, by rw [UInt8.toNat_ofNat']; omega⟩
  rw [← hd]
  clear hd
  have HS := Lib.hid (fun w hm => shown_c w hm)
  have HM := Lib.hid hm
  by_cases hbS : 300 < S.size
  · have hiS : (300 : Int) < (S.size : Int) := by omega
    clear hm
    go_enter Tryd.func8, Tryd.ntmps8
    go_wp2_with fail
    refine (HS.out _ HM.out).mono ?_
    rintro e w1 ⟨rfl, hB1⟩
    go_wp2
    go_ret
    exact ⟨rfl, hB1⟩
  have hiS : ¬ (300 : Int) < (S.size : Int) := by omega
  by_cases hbR : 300 < R.size
  · have hiR : (300 : Int) < (R.size : Int) := by omega
    clear hm
    go_enter Tryd.func8, Tryd.ntmps8
    go_wp2_with fail
    refine (HS.out _ HM.out).mono ?_
    rintro e w1 ⟨rfl, hB1⟩
    go_wp2
    go_ret
    exact ⟨rfl, hB1⟩
  have hiR : ¬ (300 : Int) < (R.size : Int) := by omega
  obtain ⟨l, hl⟩ : ∃ l, l = S.data.toList := ⟨_, rfl⟩
  have hll : l.length = S.size := by rw [hl]; simp
  have c1 := fun w => take_c S 0 d (by omega) w
  rw [tkAt_0, ← hl] at c1
  cases hq : tkD d l with
  | none =>
    rw [hq] at c1
    have c1b : ∀ w, Calls Tryd.prog 10 #[.string S, .int .i64 0, .int .u8 d.toNat] w fun e w' => e = .returned (.tuple #[.string ⟨#[]⟩, .int .i64 0, .int .i64 120]) ∧ Below w.heap.size w w' := c1
    have C1 := Lib.hid c1b
    clear c1 c1b hq hl hll hm
    go_enter Tryd.func8, Tryd.ntmps8
    go_wp2_with fail
    refine (HS.out _ HM.out).mono ?_
    rintro e w1 ⟨rfl, hB1⟩
    have HB1 := Lib.hid hB1
    clear hB1
    go_wp2_with fail
    refine (C1.out _).mono ?_
    rintro e w2 ⟨rfl, hB2⟩
    have HB2 := Lib.hid (HB1.out.trans (hB2.mono HB1.out.size))
    clear hB2
    go_wp2
    go_ret
    exact ⟨rfl, HB2.out⟩
  | some y =>
    obtain ⟨t, m⟩ := y
    rw [hq] at c1
    obtain ⟨hd1, hd2, htk⟩ := tkD_some hq
    obtain ⟨T, hT⟩ : ∃ T : ByteArray, T = ⟨t.toArray⟩ := ⟨_, rfl⟩
    have c1b : ∀ w, Calls Tryd.prog 10 #[.string S, .int .i64 0, .int .u8 d.toNat] w fun e w' => e = .returned (.tuple #[.string T, .int .i64 (m : Int), .int .i64 0]) ∧ Below w.heap.size w w' := fun w => by
      have := c1 w
      simp only [tkV, Nat.zero_add] at this
      rw [hT]; exact this
    obtain ⟨a1, a2, a3, a4⟩ := tk_ends d hd1 hd2 _ l (Nat.le_refl _) t m htk
    have hms : m ≤ S.size := by omega
    have hsd := ba_get? S l hl.symm (m - 1) d (by omega) a3
    have hix : ∀ W, (Instr.index 9 (.string S) (.int .i64 ((m : Int) - 1))).run Tryd.prog W = .ok (.int .u8 (d.toNat : Int)) W := fun W => by
      rw [run_index_string (P := Tryd.prog) W 9 _ .i64 ((m : Int) - 1) Tryd.underlying9, dif_pos ⟨by omega, by omega⟩]
      have e : ((m : Int) - 1).toNat = m - 1 := by omega
      congr 3
      simp only [e]
      rw [hsd]
    obtain ⟨Q, hQ⟩ : ∃ Q : ByteArray, Q = ⟨(l.take m).toArray⟩ := ⟨_, rfl⟩
    have hQs : Q.size ≤ S.size := by rw [hQ, ba_size, List.length_take]; omega
    have hsl := slice_to S m hms Q (by rw [hQ, ← hl])
    have hbg1 : (9223372036854775807 < Q.size + R.size) = False := by simp; omega
    have hbg2 : (9223372036854775807 < (Q.size : Int) + (R.size : Int)) = False := by simp; omega
    have c2 := fun w => take_c (Q ++ R) 0 d (by simp; omega) w
    have e2 : tkAt (Q ++ R) 0 d = .tuple #[.string T, .int .i64 (m : Int), .int .i64 0] := by
      rw [tkAt_0, show (Q ++ R).data.toList = l.take m ++ R.data.toList by rw [hQ]; simp, tkD_of hd1 hd2, a4]
      simp only [tkV]
      rw [hT]
      simp
    rw [e2] at c2
    have C1 := Lib.hid c1b
    have C2 := Lib.hid c2
    clear c1 c1b c2 e2 hq hl hll hm hd1 hd2 htk hT a2 a3 a4 hsd hQ
    go_enter Tryd.func8, Tryd.ntmps8
    go_wp2_with fail
    refine (HS.out _ HM.out).mono ?_
    rintro e w1 ⟨rfl, hB1⟩
    have HB1 := Lib.hid hB1
    clear hB1
    go_wp2_with fail
    refine (C1.out _).mono ?_
    rintro e w2 ⟨rfl, hB2⟩
    have HB2 := Lib.hid (HB1.out.trans (hB2.mono HB1.out.size))
    clear hB2
    go_wp2_with fail
    refine (C2.out _).mono ?_
    rintro e w3 ⟨rfl, hB3⟩
    have HB3 := Lib.hid (HB2.out.trans (hB3.mono HB2.out.size))
    clear hB3
    go_wp2
    go_ret
    exact ⟨rfl, HB3.out⟩

end Go.Proofs.YtagjoebggghknaaDoor
