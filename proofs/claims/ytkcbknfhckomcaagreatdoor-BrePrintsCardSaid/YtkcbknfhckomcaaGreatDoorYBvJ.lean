/- The reference's atom: a group. -/
import Derived.Test.YtkcbknfhckomcaaGreatDoorYBvH
import Derived.Deep.CutBlock
set_option linter.unusedVariables false
set_option linter.unusedSimpArgs false
set_option maxRecDepth 100000
set_option maxHeartbeats 40000000
namespace Go.Proofs.YtkcbknfhckomcaaGreatDoor
open Go.RowKit Go.Lib
def RowCU (s : List UInt8) (f : Nat) : Prop := ∀ (r : BRd) (p : Option Addr) (c : Nat) (w : World), 10 ≤ f + r.g → r.g ≤ 9 → r.p ≤ s.length → r.l.length ≤ 3 * r.p → RRow w 0 (.slice p r.l.length c) r.l.length r.l →
 Calls Tryz.prog 33 #[.string ⟨s.toArray⟩, .int .i64 (r.p : Int), .agg (sc (.slice p r.l.length c) r.g r.en 0 0)] w (SOut w (rowU s f r))
theorem row_belowB {W W' : World} {B n b : Nat} {v : Value} {xs : List Nd} (h : RRow W B v n xs) (hB : Below b W W') (e : b = W.heap.size) : RRow W' B v n xs := row_below h (e ▸ hB)
theorem ST.setEn {W : World} {b : Nat} {v : Value} {g : Int} {en : Nat → Bool} {a e : Int} (h : ST W b v g en a e) {k : Nat} (hk : k ≤ 9) : ST (W.setCell ⟨b, 2 + k, none⟩ (.bool true)) b v g (fun j => if j = k then true else en j) a e := ⟨by
 rw [heap_setCell_same _ b (2 + k) _ _ _ h.heap]
 rcases (by omega : k = 0 ∨ k = 1 ∨ k = 2 ∨ k = 3 ∨ k = 4 ∨ k = 5 ∨ k = 6 ∨ k = 7 ∨ k = 8 ∨ k = 9) with rfl | rfl | rfl | rfl | rfl | rfl | rfl | rfl | rfl | rfl <;> rfl⟩
theorem atom_group (s : List UInt8) (hs : s.length ≤ 100000) (row : BRd → Except Er BRd) (r : BRd) (hp : r.p < s.length) (hl : r.l.length ≤ 999998) (first : Bool) (f : Nat) (hrw : row = rowU s f) (hf : 10 ≤ f + (r.g + 1)) (hs3 : s.length ≤ 100000) (hg9 : r.g ≤ 9) (hl3 : r.l.length ≤ 3 * r.p) (HC : RowCU s f) (hgo : r.g < 9 → URGo s (r.g + 1) row) (hc : s[r.p]? = some 92) (hd : s[r.p + 1]? = some 40) (p : Option Addr) (c : Nat) (w : World) (hrow : RRow w 0 (.slice p r.l.length c) r.l.length r.l) :
  Calls Tryz.prog 55 #[.string ⟨s.toArray⟩, .int .i64 (r.p : Int), .bool first, .agg (sc (.slice p r.l.length c) r.g r.en 0 0)] w (SOut w (atomU s row r first)) := by
 have hR : atomU s row r first = grpU s row (r.to (r.p + 2)) r.p := by unfold atomU; rw [hc]; simp only; rw [if_neg (by decide), if_neg (by decide), if_pos trivial]; unfold escU; rw [hd]; rfl
 have hsz : (⟨s.toArray⟩ : ByteArray).size = s.length := by simp [ByteArray.size]
 obtain ⟨hz, hsz2⟩ := zero_of_info (P := Tryz.prog) infoSt
 rw [hR]
 have hR' : True := trivial
 obtain ⟨i, xs, g, en⟩ := r
 simp only at hp hl hrow hc hd hf hg9 hl3 hgo ⊢
 obtain ⟨n, hn⟩ : ∃ n, n = xs.length := ⟨_, rfl⟩
 rw [← hn] at hl hrow ⊢
 obtain ⟨b, hb⟩ : ∃ b, b = w.heap.size := ⟨_, rfl⟩
 obtain ⟨W0, hW⟩ : ∃ W0, W0 = (w.alloc (.cells (sc (.slice p n c) g en 0 0) 69)).alloc (.cells (sc (.slice none 0 0) 0 (fun _ => false) 0 0) 69) := ⟨_, rfl⟩
 have s0 : b + 2 ≤ W0.heap.size := by rw [hW, hb]; simp
 have hS : ST W0 b (.slice p n c) g en 0 0 := by rw [hW, hb]; exact (ST.new w _ _ _ _ _).alloc _
 have hZ : ST W0 (b + 1) (.slice none 0 0) 0 (fun _ => false) 0 0 := by
  rw [hW, hb]
  have := ST.new (w.alloc (.cells (sc (.slice p n c) g en 0 0) 69)) (.slice none 0 0) 0 (fun _ => false) 0 0
  rwa [World.size_alloc] at this
 have hB0 : Below b w W0 := by rw [hW, hb]; exact ((Below.refl _ w).alloc (Nat.le_refl _) _).alloc (by simp) _
 have hX0 : RRow W0 0 (.slice p n c) n xs := by rw [hW]; exact row_alloc (row_alloc hrow _) _
 have HS := Lib.hid hS
 have HZ := Lib.hid hZ
 have HB0 := Lib.hid hB0
 have HRW := Lib.hid hrow
 have HX0 := Lib.hid hX0
 have HW := Lib.hid hW
 have HB := Lib.hid hb
 have HN := Lib.hid hn
 clear hS hZ hB0 hX0 hrow hW hb hn hsz2 hR hR'
 obtain ⟨R, hR⟩ : ∃ R, R = grpU s row (BRd.to ⟨i, xs, g, en⟩ (i + 2)) i := ⟨_, rfl⟩
 rw [← hR]
 have HR := Lib.hid hR
 clear hR
 have HC := Lib.hid HC
 have HGO := Lib.hid hgo
 have hn3 : n ≤ 3 * i := by rw [HN.out]; exact hl3
 have HRWU := Lib.hid hrw
 clear hgo hrw
 generalize hC0 : sc (.slice none 0 0) 0 (fun _ => false) 0 0 = C0 at hz HW
 generalize hC1 : sc (.slice p n c) g en 0 0 = C1 at HW ⊢
 have ew1 : IntKind.i64.wrap ((i : Int) + 1) = (i : Int) + 1 := by simp [IntKind.wrap, IntKind.signed, IntKind.bits]; omega
 have ew2 : IntKind.i64.wrap ((i : Int) + 2) = (i : Int) + 2 := by simp [IntKind.wrap, IntKind.signed, IntKind.bits]; omega
 go_enter Tryz.func55, Tryz.ntmps55
 go_upto_region 1 with fail
 rw [← HW.out, ← HB.out]
 clear HW
 subst hC1 hC0
 have x0 := fun W => ixm_c s i 92 hc W
 have hlt1 := (List.getElem?_eq_some_iff.1 hd).1
 have g1 : ((i : Int) + 1 == s.length) = false := by rw [beq_eq_false_iff_ne]; omega
 have x1 : ∀ W : World, (Instr.index 9 (.string ⟨s.toArray⟩) (.int .i64 ((i : Int) + 1))).run Tryz.prog W = .ok (.int .u8 40) W := fun W => ixj_c s i 1 40 hd W
 have c1 : W0.cell? ⟨b, 1, none⟩ = some (.int .i64 (g : Int)) := HS.out.cell 1
 have f1 : W0.frozen? ⟨b, 1, none⟩ = false := HS.out.fz 1
 clear hc hd
 by_cases h9 : g = 9
 ·have HRE : Hid (R = .error (41, i)) := Lib.hid (HR.out.trans (by unfold grpU; exact if_pos h9))
  have g9 : ((g : Int) == 9) = true := by rw [h9]; rfl
  clear HR HC HGO HRWU h9 hz
  go_upto_region 16 with fail
  refine wp_region_lit ?_
  refine wpl_load_st HS.out rfl rfl rfl ?_
  try simp only [Act.put, laS]
  go_wp2_with fail
  refine (wrongU_c p n c g en 0 0 i 41 _).mono ?_
  rintro e w2 ⟨rfl, hB2⟩
  have HZ2 := HZ.out.below hB2 (by omega)
  have S0 := HZ2.storeCells (v' := .slice p n c) rfl g en i 41
  have q := (HZ2.put (.slice p n c) g en i 41).load
  have HQ := Lib.hid q
  have HB3 := Lib.hid (Below.setRow (HB0.out.trans (hB2.mono (by omega))) (show b ≤ b + 1 by omega) (sc (.slice p n c) g en i 41))
  clear q HS HZ HB0 HX0 hB2 HZ2
  go_wp2_with fail
  have q := HQ.out
  exact bodyPost_ret (v := .tuple #[.agg (sc (.slice p n c) g en i 41), .int .i64 i]) (by simp [results, Tryz.results55, asAddr, Result.andThen, q]) rfl (SOut.er HRE.out rfl (HB.out ▸ HB3.out))
 ·have g9 : ((g : Int) == 9) = false := by rw [beq_eq_false_iff_ne]; omega
  obtain ⟨k, hk⟩ : ∃ k, k = g + 1 := ⟨_, rfl⟩
  have ewg : IntKind.i64.wrap ((g : Int) + 1) = (k : Int) := by simp [IntKind.wrap, IntKind.signed, IntKind.bits]; omega
  have R1 := HGO.out (by omega)
  have hR2 : R = (match row ⟨i + 2, xs, k, en⟩ with
    | .error e => .error e
    | .ok q => if q.p = s.length ∨ q.l.length = xs.length then .error (41, i) else
     .ok (BRd.pu { q with p := q.p + 2, en := fun j => if j = k then true else q.en j } ⟨7, 0, 0, 0, 0, (q.l.length : Int) - 1, 0, 0, 0, (k : Int)⟩)) := by
   rw [HR.out]
   unfold grpU
   refine (if_neg h9).trans ?_
   simp only [BRd.to, hk, Int.natCast_add]
   rfl
  obtain ⟨X, hX⟩ : ∃ X, X = row ⟨i + 2, xs, k, en⟩ := ⟨_, rfl⟩
  rw [← hX] at hR2
  have hcall := fun w (h : RRow w 0 (.slice p n c) n xs) => HC.out ⟨i + 2, xs, k, en⟩ p c w (by rw [hk]; exact hf) (by show k ≤ 9; omega) (by show i + 2 ≤ s.length; omega) (by show xs.length ≤ 3 * (i + 2); omega) (by rw [← HN.out]; exact h)
  rw [← HRWU.out, ← hX] at hcall
  simp only [← HN.out] at hcall
  have hi2 : ((i + 2 : Nat) : Int) = (i : Int) + 2 := by omega
  rw [hi2] at hcall
  rw [← hk] at R1
  have her : ∀ e, X = .error e → e.1 ≠ 0 := fun e h => R1.er ⟨i + 2, xs, k, en⟩ (by show i + 2 ≤ s.length; omega) rfl e (hX.symm.trans h)
  have hok : ∀ q, X = .ok q → i + 2 ≤ q.p ∧ q.p ≤ s.length ∧ q.l.length ≤ xs.length + 3 * (q.p - (i + 2)) ∧ xs.length ≤ q.l.length ∧ k ≤ q.g ∧ q.g ≤ 9 ∧ endsP s q.p = true := fun q h => R1.ok ⟨i + 2, xs, k, en⟩ (by show i + 2 ≤ s.length; omega) rfl q (hX.symm.trans h)
  have HCALL := Lib.hid hcall
  have HER := Lib.hid her
  have HOK := Lib.hid hok
  have HR2 := Lib.hid hR2
  have hk9 : 1 ≤ k ∧ k ≤ 9 := by omega
  clear hcall her hok hR2 HR HC HGO HRWU R1 hX hf hk hi2
  go_upto_region 18 with fail
  have HB1 := Lib.hid (Below.setCell HB0.out (p := ⟨b, 1, none⟩) (Nat.le_refl b) (.int .i64 (k : Int)))
  have HX1 := Lib.hid (row_belowB HRW.out HB1.out HB.out)
  have HS1 := Lib.hid (HS.out.setG (k : Int))
  have HZ1 := Lib.hid (HZ.out.other (p := ⟨b, 1, none⟩) (by show b + 1 ≠ b; omega) (.int .i64 (k : Int)))
  have s1 : b + 2 ≤ (W0.setCell ⟨b, 1, none⟩ (.int .i64 (k : Int))).heap.size := by simpa [World.setCell] using s0
  clear HB0 HX0 HS HZ c1 f1 s0
  generalize W0.setCell ⟨b, 1, none⟩ (.int .i64 (k : Int)) = W1 at *
  have c1 : W1.cell? ⟨b, 1, none⟩ = some (.int .i64 (k : Int)) := HS1.out.cell 1
  go_upto_region 19 with fail
  refine wp_region_lit ?_
  refine wpList_plain rfl (fun K hK => ?_)
  go_simp
  refine hK _ _ ?_
  clear hK K
  try simp only [Act.put, laS]
  refine wpList_plain rfl (fun K hK => ?_)
  go_simp
  refine hK _ _ ?_
  clear hK K
  try simp only [Act.put, laS]
  refine wpList_plain rfl (fun K hK => ?_)
  go_simp
  refine hK _ _ ?_
  clear hK K
  try simp only [Act.put, laS]
  refine wpl_load_st HS1.out rfl rfl rfl ?_
  try simp only [Act.put, laS]
  go_wp2_with fail
  refine (HCALL.out _ HX1.out).mono ?_
  rintro e w2 hso
  clear HCALL
  cases X with
  | error z =>
   obtain ⟨er, at_⟩ := z
   obtain ⟨p2, n2, c2, g2, en2, k2, rfl, hB2⟩ := hso
   have hne : er ≠ 0 := HER.out (er, at_) rfl
   have HRE : Hid (R = .error (er, at_)) := HR2
   have Zs := (ST.new w2 (.slice none 0 0) 0 (fun _ => false) 0 0).storeCells (v' := .slice p2 n2 c2) rfl g2 en2 at_ er
   have HU := Lib.hid ((ST.new w2 (.slice none 0 0) 0 (fun _ => false) 0 0).put (.slice p2 n2 c2) g2 en2 at_ er)
   have hB3 := Below.setRow ((Below.refl _ w2).alloc (Nat.le_refl _) (.cells (sc (.slice none 0 0) 0 (fun _ => false) 0 0) 69)) (Nat.le_refl _) (sc (.slice p2 n2 c2) g2 en2 at_ er)
   have HZ2 := Lib.hid ((HZ1.out.below hB2 HZ1.out.lt).below hB3 (Nat.lt_of_lt_of_le HZ1.out.lt hB2.size))
   have HB2 := Lib.hid (HB1.out.trans ((hB2.mono (show b ≤ W1.heap.size by omega)).trans (hB3.mono (by have := hB2.size; omega))))
   have hlt := HU.out.lt
   clear HER HOK HR2 HS1 HZ1 HB1 HX1 hB2 hB3 c1
   go_upto_region 20 with fail
   generalize (w2.alloc (.cells (sc (.slice none 0 0) 0 (fun _ => false) 0 0) 69)).setRow w2.heap.size (sc (.slice p2 n2 c2) g2 en2 at_ er) = W3 at *
   generalize w2.heap.size = u at *
   clear Zs hz
   have cu : W3.cell? ⟨u, 13, none⟩ = some (.int .i64 er) := HU.out.cell 13
   have hnz : ((er : Int) != 0) = true := by rw [bne_iff_ne]; exact hne
   go_upto_region 21 with fail
   refine wp_region_lit ?_
   refine wpl_load_st HU.out rfl rfl rfl ?_
   try simp only [Act.put, laS]
   have S0 := HZ2.out.storeCells (v' := .slice p2 n2 c2) rfl g2 en2 at_ er
   have q := (HZ2.out.put (.slice p2 n2 c2) g2 en2 at_ er).load
   have HQ := Lib.hid q
   have HB3 := Lib.hid (Below.setRow HB2.out (show b ≤ b + 1 by omega) (sc (.slice p2 n2 c2) g2 en2 at_ er))
   clear q HU HZ2 HB2 cu
   go_wp2_with fail
   have q := HQ.out
   exact bodyPost_ret (v := .tuple #[.agg (sc (.slice p2 n2 c2) g2 en2 at_ er), .int .i64 k2]) (by simp [results, Tryz.results55, asAddr, Result.andThen, q]) rfl (SOut.er HRE.out rfl (HB.out ▸ HB3.out))
  | ok v =>
   obtain ⟨vp, ys, vg, ven⟩ := v
   obtain ⟨p2, c2, rfl, hr2, hB2⟩ := hso
   have hv := HOK.out _ rfl
   simp only at hv hr2
   obtain ⟨m, hm⟩ : ∃ m, m = ys.length := ⟨_, rfl⟩
   rw [← hm] at hr2 hv
   rw [← HN.out] at hv
   simp only [← hm]
   have HM := Lib.hid hm
   clear hm HER HOK
   have Zs := (ST.new w2 (.slice none 0 0) 0 (fun _ => false) 0 0).storeCells (v' := .slice p2 m c2) rfl vg ven 0 0
   have HU := Lib.hid ((ST.new w2 (.slice none 0 0) 0 (fun _ => false) 0 0).put (.slice p2 m c2) vg ven 0 0)
   have hB3 := Below.setRow ((Below.refl _ w2).alloc (Nat.le_refl _) (.cells (sc (.slice none 0 0) 0 (fun _ => false) 0 0) 69)) (Nat.le_refl _) (sc (.slice p2 m c2) vg ven 0 0)
   have HZ2 := Lib.hid ((HZ1.out.below hB2 HZ1.out.lt).below hB3 (Nat.lt_of_lt_of_le HZ1.out.lt hB2.size))
   have HS2 := Lib.hid ((HS1.out.below hB2 HS1.out.lt).below hB3 (Nat.lt_of_lt_of_le HS1.out.lt hB2.size))
   have HB2 := Lib.hid (HB1.out.trans ((hB2.mono (show b ≤ W1.heap.size by omega)).trans (hB3.mono (by have := hB2.size; omega))))
   have HX2 := Lib.hid (row_below hr2 hB3)
   have HX4 := Lib.hid (row_below hr2 (Below.setCell hB3 (p := ⟨w2.heap.size, 2 + k, none⟩) (Nat.le_refl _) (.bool true)))
   have hlt := HU.out.lt
   have hub : b + 2 ≤ w2.heap.size := Nat.le_trans s1 hB2.size
   clear HS1 HZ1 HB1 HX1 hB2 hB3 c1 hr2
   go_upto_region 20 with fail
   generalize (w2.alloc (.cells (sc (.slice none 0 0) 0 (fun _ => false) 0 0) 69)).setRow w2.heap.size (sc (.slice p2 m c2) vg ven 0 0) = W3 at *
   generalize w2.heap.size = u at *
   clear Zs hz
   have cu : W3.cell? ⟨u, 13, none⟩ = some (.int .i64 0) := HU.out.cell 13
   have cu0 : W3.cell? ⟨u, 0, none⟩ = some (.slice p2 m c2) := HU.out.cell 0
   have ct0 : W3.cell? ⟨b, 0, none⟩ = some (.slice p n c) := HS2.out.cell 0
   by_cases hbad : vp = s.length ∨ m = n
   ·have HRE : Hid (R = .error (41, i)) := Lib.hid (HR2.out.trans (if_pos (by rw [← HM.out, ← HN.out]; exact hbad)))
    clear HR2 HX2 HU
    go_upto_region 22 with fail
    go_cut [117] (fun v wx => v = .bool true ∧ wx = W3)
    case first =>
     by_cases hvp : vp = s.length
     ·have q1 : ((vp : Int) == s.length) = true := by rw [hvp]; simp
      clear hbad
      go_wp2_with fail
      go_meet
      exact ⟨rfl, rfl⟩
     ·have q1 : ((vp : Int) == s.length) = false := by rw [beq_eq_false_iff_ne]; omega
      have q2 : ((m : Int) == n) = true := by rw [beq_iff_eq]; omega
      clear hbad
      go_wp2_with fail
      go_meet
      exact ⟨rfl, rfl⟩
    case rest =>
     obtain ⟨rfl, hwc⟩ := hcut
     subst hwc
     go_upto_region 23 with fail
     refine wp_region_lit ?_
     refine wpl_load_st HS2.out rfl rfl rfl ?_
     try simp only [Act.put, laS]
     go_wp2_with fail
     refine (wrongU_c p n c k en 0 0 i 41 _).mono ?_
     rintro e w4 ⟨rfl, hB4⟩
     have HZ4 := HZ2.out.below hB4 (by omega)
     have S0 := HZ4.storeCells (v' := .slice p n c) rfl k en i 41
     have q := (HZ4.put (.slice p n c) k en i 41).load
     have HQ := Lib.hid q
     have HB4 := Lib.hid (Below.setRow (HB2.out.trans (hB4.mono (by omega))) (show b ≤ b + 1 by omega) (sc (.slice p n c) k en i 41))
     clear q HS2 HZ2 HB2 hB4 HZ4
     go_wp2_with fail
     have q := HQ.out
     exact bodyPost_ret (v := .tuple #[.agg (sc (.slice p n c) k en i 41), .int .i64 i]) (by simp [results, Tryz.results55, asAddr, Result.andThen, q]) rfl (SOut.er HRE.out rfl (HB.out ▸ HB4.out))
   ·have HRE : Hid (R = .ok (BRd.pu ⟨vp + 2, ys, vg, fun j => if j = k then true else ven j⟩ ⟨7, 0, 0, 0, 0, (m : Int) - 1, 0, 0, 0, (k : Int)⟩)) := Lib.hid (by rw [HR2.out]; simp only; rw [if_neg (by rw [← HM.out, ← HN.out]; exact hbad), HM.out])
    have q1 : ((vp : Int) == s.length) = false := by rw [beq_eq_false_iff_ne]; omega
    have q2 : ((m : Int) == n) = false := by rw [beq_eq_false_iff_ne]; omega
    have hend := hv.2.2.2.2.2.2
    unfold endsP at hend
    rw [Bool.or_eq_true, decide_eq_true_eq] at hend
    have hvp2 : vp + 2 ≤ s.length := by
     rcases hend with t | t
     ·exact absurd (Or.inl t) hbad
     ·rcases ah_le t with t | t
      ·exact t
      ·cases t
    have fu : W3.frozen? ⟨u, 2 + k, none⟩ = false := HU.out.fz (2 + k)
    obtain ⟨ob, hob⟩ : ∃ x, W3.cell? ⟨u, 2 + k, none⟩ = some x := by
     rw [HU.out.cell (2 + k)]
     rcases (by omega : k = 1 ∨ k = 2 ∨ k = 3 ∨ k = 4 ∨ k = 5 ∨ k = 6 ∨ k = 7 ∨ k = 8 ∨ k = 9) with rfl | rfl | rfl | rfl | rfl | rfl | rfl | rfl | rfl <;> exact ⟨_, rfl⟩
    have hU4 := HU.out.setEn hk9.2
    have hZ4 := HZ2.out.other (p := ⟨u, 2 + k, none⟩) (by show b + 1 ≠ u; omega) (.bool true)
    have hB4 := HB2.out.setCell (p := ⟨u, 2 + k, none⟩) (by show b ≤ u; omega) (.bool true)
    have hlf := fun w (h : RRow w 0 (.slice p2 m c2) m ys) => leafU_c p2 m c2 vg (fun j => if j = k then true else ven j) 0 0 ⟨7, 0, 0, 0, 0, (m : Int) - 1, 0, 0, 0, (k : Int)⟩ ys (by omega) w h
    unfold Nd.cells at hlf
    dsimp only at hlf
    have ewm : IntKind.i64.wrap ((m : Int) - 1) = (m : Int) - 1 := by simp [IntKind.wrap, IntKind.signed, IntKind.bits]; omega
    have ewp : IntKind.i64.wrap ((vp : Int) + 2) = (vp : Int) + 2 := by simp [IntKind.wrap, IntKind.signed, IntKind.bits]; omega
    generalize (fun j => if j = k then true else ven j) = en2 at *
    have HLF := Lib.hid hlf
    have HU4 := Lib.hid hU4
    have HZ4 := Lib.hid hZ4
    have HB4 := Lib.hid hB4
    clear hlf hU4 hZ4 hB4 hend hbad HR2
    go_upto_region 25 with fail
    generalize W3.setCell ⟨u, 2 + k, none⟩ (.bool true) = W4 at *
    have c40 : W4.cell? ⟨u, 0, none⟩ = some (.slice p2 m c2) := HU4.out.cell 0
    refine wp_region_lit ?_
    refine wpl_load_st HU4.out rfl rfl rfl ?_
    try simp only [Act.put, laS]
    go_wp2_with fail
    refine (HLF.out _ HX4.out).mono ?_
    rintro e w5 ⟨p9, c9, rfl, hr9, hB5⟩
    have hbu := HU4.out.lt
    have HZ5 := HZ4.out.below hB5 (by omega)
    have S0 := HZ5.storeCells (v' := .slice p9 (m + 1) c9) rfl vg en2 0 0
    have q := (HZ5.put (.slice p9 (m + 1) c9) vg en2 0 0).load
    have HQ := Lib.hid q
    have HB5 := Lib.hid (Below.setRow (HB4.out.trans (hB5.mono (by omega))) (show b ≤ b + 1 by omega) (sc (.slice p9 (m + 1) c9) vg en2 0 0))
    have HR5 := Lib.hid (row_row hr9 (show b + 1 < _ by omega) (sc (.slice p9 (m + 1) c9) vg en2 0 0))
    clear q HU4 HZ4 HB4 HX4 hB5 HZ5 hr9 HLF c40
    go_wp2_with fail
    have q := HQ.out
    exact bodyPost_ret (v := .tuple #[.agg (sc (.slice p9 (m + 1) c9) vg en2 0 0), .int .i64 ((vp : Int) + 2)]) (by simp [results, Tryz.results55, asAddr, Result.andThen, q]) rfl (SOut.ok HRE.out (by rw [HM.out]; simp [BRd.pu]) (by simp [BRd.pu]) rfl rfl (row_weak HR5.out (Nat.zero_le _)) (HB.out ▸ HB5.out))
end Go.Proofs.YtkcbknfhckomcaaGreatDoor
namespace Go.Proofs.YtkcbknfhckomcaaGreatDoor
open Go.RowKit Go.Lib
theorem atomUU_c (s : List UInt8) (hs : s.length ≤ 100000) (f : Nat) (HC : RowCU s f) (r : BRd) (hp : r.p < s.length) (hl3 : r.l.length ≤ 3 * r.p) (hg9 : r.g ≤ 9) (hf : 10 ≤ f + (r.g + 1)) (first : Bool) (p : Option Addr) (c : Nat) (w : World) (hrow : RRow w 0 (.slice p r.l.length c) r.l.length r.l) :
  Calls Tryz.prog 55 #[.string ⟨s.toArray⟩, .int .i64 (r.p : Int), .bool first, .agg (sc (.slice p r.l.length c) r.g r.en 0 0)] w (SOut w (atomU s (rowU s f) r first)) := by
 have hs1 : s.length ≤ 100000 := by omega
 have hl : r.l.length ≤ 999998 := by omega
 obtain ⟨b, hb⟩ : ∃ b, s[r.p]? = some b := ⟨_, List.getElem?_eq_getElem hp⟩
 by_cases h46 : b = 46
 ·subst h46; exact atom_dot s hs1 _ r hp hl first hb p c w hrow
 by_cases h91 : b = 91
 ·subst h91
  cases hk : brkP (s.drop r.p) with
  | none => exact atom_bno s hs1 _ r hp hl first hb hk p c w hrow
  | some x => exact atom_byes s hs1 _ r hp hl first hb x.1 x.2 hk p c w hrow
 by_cases h92 : b = 92
 ·subst h92
  cases hd : s[r.p + 1]? with
  | none => exact atom_end s hs1 _ r hp hl first hb hd p c w hrow
  | some d =>
   by_cases h40 : d = 40
   ·subst h40
    have hE : atomU s (rowU s f) r first = grpU s (rowU s f) (r.to (r.p + 2)) r.p := by
     unfold atomU; rw [hb]; simp only; rw [if_neg (by decide), if_neg (by decide), if_pos trivial]; unfold escU; rw [hd]; rfl
    exact atom_group s hs1 _ r hp hl first f rfl hf hs hg9 hl3 HC (fun h9 => rowU_goes s f (r.g + 1) hf (by omega)) hb hd p c w hrow
   by_cases hdig : (decide (49 ≤ d.toNat) && decide (d.toNat ≤ 57)) = true
   ·cases hen : r.en (d.toNat - 48) with
    | false => exact atom_dno s hs1 _ r hp hl first hb d hd h40 hdig hen p c w hrow
    | true => exact atom_dyes s hs1 _ r hp hl first hb d hd h40 hdig hen p c w hrow
   by_cases h110 : d = 110
   ·subst h110; exact atom_lf s hs1 _ r hp hl first hb hd p c w hrow
   by_cases hin : d = 47 ∨ d ∈ ([46, 91, 92, 42, 94, 36] : List UInt8)
   ·exact atom_sp s hs1 _ r hp hl first hb d hd h40 hdig h110 hin p c w hrow
   by_cases h123 : d = 123
   ·cases hfi : first with
    | true => rw [← hfi]; exact atom_cnt s hs1 _ r hp hl first hb d hd h40 hdig h110 hin h123 hfi p c w hrow
    | false => rw [← hfi]; exact atom_bad s hs1 _ r hp hl first hb d hd h40 hdig h110 hin (fun h => by rw [hfi] at h; exact absurd h.2 (by decide)) p c w hrow
   ·exact atom_bad s hs1 _ r hp hl first hb d hd h40 hdig h110 hin (fun h => h123 h.1) p c w hrow
 exact atom_one s hs1 _ r hp hl first b hb h46 h91 h92 p c w hrow
theorem own_neT {W : World} {B z n : Nat} {e : TypeId} {v : Value} {l : List Value} (h : W.ownsRow B e z v n l) {b : Nat} {cs : Array Value} {T : TypeId} {fz : Nat × Nat} (hb : W.heap[b]? = some (.cells cs T fz)) (hT : T ≠ e) : v.ownBlock ≠ some b := by
 rcases h.2 with ⟨rfl, _⟩ | ⟨g, cap, cur, rfl, _, hg, _⟩
 ·simp [Value.ownBlock]
 ·intro h2
  simp only [Value.ownBlock, Option.some.injEq] at h2
  subst h2
  rw [hg] at hb
  cases hb
  exact hT rfl
theorem own_setRow {W : World} {B z n : Nat} {e : TypeId} {v : Value} {l : List Value} (h : W.ownsRow B e z v n l) {b : Nat} (hb : v.ownBlock ≠ some b) (c : Array Value) : (W.setRow b c).ownsRow B e z v n l := by
 refine ⟨h.1, ?_⟩
 rcases h.2 with h1 | ⟨g, cap, cur, rfl, h2, h3, h4⟩
 ·exact .inl h1
 ·refine .inr ⟨g, cap, cur, rfl, h2, ?_, h4⟩
  show (W.heap.modify b _)[g]? = _
  rw [Array.getElem?_modify, if_neg (fun e => hb (by simp [Value.ownBlock, e]))]; exact h3
theorem own_grown {W W' : World} {B z n : Nat} {e : TypeId} {v : Value} {l : List Value} (h : W.ownsRow B e z v n l) {r : Option Nat} (hg : W.grownBy W' r) (hr : ∀ k, v.ownBlock = some k → r ≠ some k) : W'.ownsRow B e z v n l := by
 refine ⟨h.1, ?_⟩
 rcases h.2 with h1 | ⟨g, cap, cur, rfl, h2, h3, h4⟩
 ·exact .inl h1
 ·exact .inr ⟨g, cap, cur, rfl, h2, (hg.block g (Array.getElem?_eq_some_iff.1 h3).1 (fun e => hr g rfl e.symm)).trans h3, h4⟩
theorem own_below2 {W W' : World} {B z n : Nat} {e : TypeId} {v : Value} {l : List Value} (h : W.ownsRow B e z v n l) (hB : Below W.heap.size W W') : W'.ownsRow B e z v n l := by
 refine ⟨h.1, ?_⟩
 rcases h.2 with h1 | ⟨g, cap, cur, h1, h2, h3, h4⟩
 ·exact .inl h1
 ·exact .inr ⟨g, cap, cur, h1, h2, (hB.block g (Array.getElem?_eq_some_iff.1 h3).1).trans h3, h4⟩
structure LS (w wr : World) (b : Nat) (r : BRd) (p : Option Addr) (c : Nat) (tv : Value) (ts : List Int) : Prop where
 s : ST wr b (.slice p r.l.length c) r.g r.en 0 0
 z : ST wr (b + 1) (.slice none 0 0) 0 (fun _ => false) 0 0
 x : RRow wr 0 (.slice p r.l.length c) r.l.length r.l
 t : wr.ownsRow b 3 1 tv ts.length (ts.map (Value.int .i64))
 B : Below b w wr
section
variable {w wr w' : World} {b : Nat} {r : BRd} {p : Option Addr} {c : Nat} {tv : Value} {ts : List Int}
theorem LS.below (h : LS w wr b r p c tv ts) (hB : Below wr.heap.size wr w') : LS w w' b r p c tv ts :=
 ⟨h.s.below hB h.s.lt, h.z.below hB h.z.lt, row_below h.x hB, own_below2 h.t hB, h.B.trans (hB.mono (by have := h.z.lt; omega))⟩
theorem LS.put (h : LS w wr b r p c tv ts) (r' : BRd) (p' : Option Addr) (c' : Nat) (hx : RRow wr 0 (.slice p' r'.l.length c') r'.l.length r'.l) : LS w (wr.setRow b (sc (.slice p' r'.l.length c') r'.g r'.en 0 0)) b r' p' c' tv ts :=
 ⟨h.s.put _ _ _ _ _, h.z.setRow_other (by omega) _, own_setRow hx (own_neT (show wr.ownsRow 0 _ _ _ _ _ from hx) h.s.heap (by decide)) _, own_setRow h.t (own_neT h.t h.s.heap (by decide)) _, Below.setRow h.B (Nat.le_refl _) _⟩
theorem LS.to (h : LS w wr b r p c tv ts) (i : Nat) : LS w wr b (r.to i) p c tv ts := ⟨h.s, h.z, h.x, h.t, h.B⟩
theorem LS.push (h : LS w wr b r p c tv ts) {tv' : Value} {y : Int} (hg : wr.grownBy w' tv.ownBlock) (ht : w'.ownsRow b 3 1 tv' (ts.length + 1) (ts.map (Value.int .i64) ++ [.int .i64 y])) : LS w w' b r p c tv' (ts ++ [y]) := by
 have hb : tv.ownBlock ≠ some b := own_neT h.t h.s.heap (by decide)
 have hb1 : tv.ownBlock ≠ some (b + 1) := own_neT h.t h.z.heap (by decide)
 have hbB : ∀ k, tv.ownBlock = some k → b ≤ k := fun k e => (World.ownsRow.lt h.t k e).1
 refine ⟨⟨(hg.block b h.s.lt (fun e => hb e.symm)).trans h.s.heap⟩, ⟨(hg.block (b + 1) h.z.lt (fun e => hb1 e.symm)).trans h.z.heap⟩, ?_, ?_, ?_⟩
 ·refine own_grown h.x hg (fun k hk e => ?_)
  rcases h.t.2 with ⟨rfl, _⟩ | ⟨g, cap, cur, rfl, _, hgt, _⟩
  ·simp [Value.ownBlock] at e
  ·simp only [Value.ownBlock, Option.some.injEq] at e
   subst e
   exact own_neT h.x hgt (by decide) hk
 ·simpa using ht
 ·exact h.B.grown hg (by have := h.s.lt; omega) hbB
theorem wp_snoc_int {W : World} {o : Oper} {a : Act} {K : Act → World → Prop} {Q : Exit → Act → World → Prop} {sx x : Operand}
  (ho : o.op = .call { callee := .builtin .append, args := #[sx, x], argTypes := #[78, 78] }) {B : Nat} {v : Value} {n : Nat} {xs : List Value} (hs : a.eval sx = v) (hrow : W.ownsRow B 3 1 v n xs)
  {k cc : Nat} {y : Int} (hk : W.heap[k]? = some (.cells #[.int .i64 y] 3 (0, 0))) (hx : a.eval x = .slice (some ⟨k, 0, none⟩) 1 cc) (hn : n ≤ 1000000) (hB : B ≤ k)
  (h : ∀ v' W', W'.ownsRow B 3 1 v' (n + 1) (xs ++ [.int .i64 y]) → W.grownBy W' v.ownBlock → K (a.put o.dst v') W') : o.wp Tryz.prog a W K Q := by
 obtain ⟨i0, hi, hz0, hz1, hz2⟩ := info_parts infoI
 have hlt := (Array.getElem?_eq_some_iff.1 hk).1
 refine wp_append_own W sx x 78 ho B 3 i0 (.int .i64 0) 1 8 Tryz.underlying78 hi hz0 hz1 hz2 rfl (by decide) _ _ _ hs hrow ⟨k, 0, none⟩ 1 cc [.int .i64 y] hx rfl ?_ (by intro u hu; simp at hu; subst hu; rfl) (by unfold maxLen; omega) (by omega) (by omega) ?_
 ·intro j u hj
  rw [Addr.add_lit, Nat.zero_add, cell_of _ _ _ _ hk]
  simpa using hj
 ·intro v' W' h1 h2 h3
  exact h v' W' h1 h2
theorem wpl_snoc_int {W : World} {ops : Array Oper} {rest : List Oper} {o : Oper} {a : Act} {Q : Exit → Act → World → Prop} {sx x : Operand} (hg : o.guard = none)
  (ho : o.op = .call { callee := .builtin .append, args := #[sx, x], argTypes := #[78, 78] }) {B : Nat} {v : Value} {n : Nat} {xs : List Value} (hs : a.eval sx = v) (hrow : W.ownsRow B 3 1 v n xs)
  {k cc : Nat} {y : Int} (hk : W.heap[k]? = some (.cells #[.int .i64 y] 3 (0, 0))) (hx : a.eval x = .slice (some ⟨k, 0, none⟩) 1 cc) (hn : n ≤ 1000000) (hB : B ≤ k)
  (h : ∀ v' W', W'.ownsRow B 3 1 v' (n + 1) (xs ++ [.int .i64 y]) → W.grownBy W' v.ownBlock → wpList Tryz.prog ops Q rest (a.put o.dst v') W') : wpList Tryz.prog ops Q (o :: rest) a W :=
 wpList_plain hg fun _ hK => wp_snoc_int ho hs hrow hk hx hn hB (fun v' W' h1 h2 => hK _ _ (h v' W' h1 h2))
end
end Go.Proofs.YtkcbknfhckomcaaGreatDoor
