/- The reference's read: a number of times, a group, a Ref, anything else. -/
import Derived.Test.YthcgboebmhabeaaDoorZRxRw
namespace Go.Proofs.YthcgboebmhabeaaDoor
open Go.RowKit Go.Lib
set_option linter.unusedVariables false
set_option linter.unusedSimpArgs false

set_option maxRecDepth 100000 in
set_option maxHeartbeats 8000000 in
theorem read_times (s : List UInt8) (hl : s.length ≤ 100000) (f d a g : Nat) (hd : d + f = 130) (xs : List Nd) (v : Value) (w : World) (hg : g ≤ a) (hx : xs.length ≤ a) (hrow : RRow w 0 v xs.length xs) (H : RdC s f) (ha : s[a]? = some 42) :
    Calls Tryd.prog 14 #[.string ⟨s.toArray⟩, .int .i64 (a : Int), v, .int .i64 (g : Int), .int .i64 (d : Int)] w (RdP w v (rr s (f + 1) a xs g)) := by
  obtain ⟨i0, hi, hz0, hz1, hz2⟩ := info_parts infoRn
  have hlt := (List.getElem?_eq_some_iff.1 ha).1
  have hx1 := fun w => ridx_c s hl a _ ha w
  have g1 : ((s.length : Int) ≤ a) = False := by simp; omega
  have g2 : ((130 : Int) < d) = False := by simp; omega
  have ew : IntKind.i64.wrap ((a : Int) + 1) = (a : Int) + 1 := by simp [IntKind.wrap, IntKind.signed, IntKind.bits]; omega
  have ed : IntKind.i64.wrap ((d : Int) + 1) = (d : Int) + 1 := by simp [IntKind.wrap, IntKind.signed, IntKind.bits]; omega
  have eg : IntKind.i64.wrap ((g : Int) + 1) = (g : Int) + 1 := by simp [IntKind.wrap, IntKind.signed, IntKind.bits]; omega
  have hx2 : ∀ w, (Instr.index 9 (.string ⟨s.toArray⟩) (.int .i64 (a : Int))).run Tryd.prog w = .ok (.int .u8 42) w := hx1
  have hne := row_lt hrow
  have R1 := Lib.hid fun w => rnumber_c s hl (a + 1) (by omega) 44 w
  have hrr : rr s (f + 1) a xs g = if (rnum s (a + 1) 44).2 < 0 then none
      else if (rnum s ((rnum s (a + 1) 44).2.toNat + 1) 59).2 < 0 then none
      else (rr s f ((rnum s ((rnum s (a + 1) 44).2.toNat + 1) 59).2.toNat + 1) xs g).map fun p => (p.1 ++ [⟨6, 0, 0, 0, 0, (p.1.length : Int) - 1, 0, (rnum s (a + 1) 44).1, (rnum s ((rnum s (a + 1) 44).2.toNat + 1) 59).1, 0⟩], p.2.1, p.2.2) := by
    simp [rr, ha]
  have p1 := rnum_place s (a + 1) 44
  have b1 := rnum_small s (a + 1) 44
  by_cases h1 : (rnum s (a + 1) 44).2 < 0
  · have HR : Hid (rr s (f + 1) a xs g = none) := Lib.hid (hrr.trans (if_pos h1))
    have gk : ((rnum s (a + 1) 44).2 < 0) = True := by simp [h1]
    have HG5 : w.grownBy (w.alloc (.cells (Nd.cells ⟨6, 0, 0, 0, 0, 0, 0, 0, 0, 0⟩) 47)) v.ownBlock := grown_alloc (grown_refl w _) _
    clear hrr p1 b1 h1 H hx1 ha hrow
    generalize rnum s (a + 1) 44 = r1 at *
    obtain ⟨m, k⟩ := r1
    simp only [Int.natCast_add, Int.natCast_one, show ((44 : UInt8).toNat : Int) = 44 from rfl] at R1 gk
    go_enter Tryd.func14, Tryd.ntmps14
    go_wp2_with fail
    refine (R1.out _).mono ?_
    rintro e w2 ⟨rfl, rfl⟩
    go_wp2
    refine bodyPost_ret (v := .tuple #[v, .int .i64 (g : Int), .int .i64 (-1)]) (by simp [results, Tryd.results14, go_sem]) rfl ?_
    exact RdP.bad HR.out HG5
  · have p1 := p1 h1
    rw [if_neg h1] at hrr
    obtain ⟨k1, hk1⟩ : ∃ k1 : Nat, (rnum s (a + 1) 44).2 = k1 := ⟨_, (Int.toNat_of_nonneg (by omega)).symm⟩
    rw [hk1] at hrr p1
    simp only [Int.toNat_natCast] at hrr p1
    have R2 := Lib.hid fun w => rnumber_c s hl (k1 + 1) (by omega) 59 w
    have p2 := rnum_place s (k1 + 1) 59
    have b2 := rnum_small s (k1 + 1) 59
    have gk : ((k1 : Int) < 0) = False := by simp
    have ek1 : IntKind.i64.wrap ((k1 : Int) + 1) = (k1 : Int) + 1 := by simp [IntKind.wrap, IntKind.signed, IntKind.bits]; omega
    by_cases h2 : (rnum s (k1 + 1) 59).2 < 0
    · have HR : Hid (rr s (f + 1) a xs g = none) := Lib.hid (hrr.trans (if_pos h2))
      have gk2 : ((rnum s (k1 + 1) 59).2 < 0) = True := by simp [h2]
      have HG5 : w.grownBy (w.alloc (.cells (Nd.cells ⟨6, 0, 0, 0, 0, 0, 0, 0, 0, 0⟩) 47)) v.ownBlock := grown_alloc (grown_refl w _) _
      rw [hk1] at R1
      clear hrr p1 b1 h1 H hx1 ha hrow h2 p2 b2 hk1
      generalize (rnum s (a + 1) 44).1 = m at *
      generalize rnum s (k1 + 1) 59 = r2 at *
      obtain ⟨M, k2⟩ := r2
      simp only [Int.natCast_add, Int.natCast_one, show ((44 : UInt8).toNat : Int) = 44 from rfl, show ((59 : UInt8).toNat : Int) = 59 from rfl] at R1 R2 gk2
      go_enter Tryd.func14, Tryd.ntmps14
      go_wp2_with fail
      refine (R1.out _).mono ?_
      rintro e w2 ⟨rfl, rfl⟩
      go_wp2_with fail
      refine (R2.out _).mono ?_
      rintro e w2 ⟨rfl, rfl⟩
      go_wp2
      refine bodyPost_ret (v := .tuple #[v, .int .i64 (g : Int), .int .i64 (-1)]) (by simp [results, Tryd.results14, go_sem]) rfl ?_
      exact RdP.bad HR.out HG5
    · have p2 := p2 h2
      rw [if_neg h2] at hrr
      obtain ⟨k2, hk2⟩ : ∃ k2 : Nat, (rnum s (k1 + 1) 59).2 = k2 := ⟨_, (Int.toNat_of_nonneg (by omega)).symm⟩
      rw [hk2] at hrr p2
      simp only [Int.toNat_natCast] at hrr p2
      have gk2 : ((k2 : Int) < 0) = False := by simp
      have ek2 : IntKind.i64.wrap ((k2 : Int) + 1) = (k2 : Int) + 1 := by simp [IntKind.wrap, IntKind.signed, IntKind.bits]; omega
      rw [hk1] at R1
      rw [hk2] at R2
      obtain ⟨m, hm⟩ : ∃ m, m = (rnum s (a + 1) 44).1 := ⟨_, rfl⟩
      obtain ⟨M, hM⟩ : ∃ M, M = (rnum s (k1 + 1) 59).1 := ⟨_, rfl⟩
      rw [← hm] at R1 hrr b1
      rw [← hM] at R2 hrr b2
      simp only [Int.natCast_add, Int.natCast_one, show ((44 : UInt8).toNat : Int) = 44 from rfl, show ((59 : UInt8).toNat : Int) = 59 from rfl] at R1 R2
      have hN1 := NR.new w ⟨6, 0, 0, 0, 0, 0, 0, m, M, 0⟩
      have hgr1 : w.grownBy (w.alloc (.cells (Nd.cells ⟨6, 0, 0, 0, 0, 0, 0, m, M, 0⟩) 47)) v.ownBlock := grown_alloc (grown_refl w _) _
      have IH1 := Lib.hid (H (d + 1) (k2 + 1) g xs v _ (by omega) (by omega) (by omega) (by omega) (World.ownsRow.alloc hrow (.cells (Nd.cells ⟨6, 0, 0, 0, 0, 0, 0, m, M, 0⟩) 47)))
      simp only [Int.natCast_add, Int.natCast_one] at IH1
      have HRR := Lib.hid hrr
      have HN1 := Lib.hid hN1
      have HG1 := Lib.hid hgr1
      clear hrr hN1 hgr1 H hx1 ha hrow h1 h2 hk1 hk2 hm hM b1 b2
      go_enter Tryd.func14, Tryd.ntmps14
      go_wp2_with fail
      refine (R1.out _).mono ?_
      rintro e w2 ⟨rfl, rfl⟩
      go_wp2_with fail
      refine (R2.out _).mono ?_
      rintro e w2 ⟨rfl, rfl⟩
      clear R1 R2
      go_wp2_with fail
      refine IH1.out.mono ?_
      clear IH1
      rintro e w2 ⟨hgr2, ⟨ys, g2, i2, v2, hr2, rfl, hrow2, hat2⟩ | ⟨hr2, v2, gz, rfl⟩⟩
      · have go2 := rr_goes s f (k2 + 1) xs g _ hr2
        have q1 := go2.i; have q2 := go2.l; have q3 := go2.n; have q4 := go2.n1; have q5 := go2.g1
        simp only at q1 q2 q3 q4 q5
        have gi2 : ((i2 : Int) < 0) = False := by simp
        have hN2 := HN1.out.grown hgr2 (fun e => hne e.symm)
        have hne2 : v2.ownBlock ≠ some w.heap.size := by
          rcases hat2 with e | ⟨b, e, hb⟩
          · rw [e]; exact hne
          · rw [e]; intro q; cases q; (try simp at hb) <;> omega
        obtain ⟨b2, cap2, rfl⟩ := row_some hrow2 (by omega)
        have ly : ys.length ≤ 100000 := by omega
        have el : IntKind.i64.wrap ((ys.length : Int) - 1) = (ys.length : Int) - 1 := by simp [IntKind.wrap, IntKind.signed, IntKind.bits]; omega
        have hat5 : (Value.slice (some ⟨b2, 0, none⟩) ys.length cap2).ownBlock = v.ownBlock ∨ ∃ b, (Value.slice (some ⟨b2, 0, none⟩) ys.length cap2).ownBlock = some b ∧ w.heap.size ≤ b := by
          rcases hat2 with e' | ⟨b, e', hb⟩
          · exact .inl e'
          · exact .inr ⟨b, e', by (try simp at hb) <;> omega⟩
        have hgr5 := HG1.out.trans hgr2
        have cA : w2.cell? ⟨w.heap.size, 5, none⟩ = some (.int .i64 0) := (hN2.c 5).trans rfl
        have fA := hN2.fz 5
        have hN5 := hN2.setA ((ys.length : Int) - 1)
        have z0 : World.cell? (w2.setCell ⟨w.heap.size, 5, none⟩ (.int .i64 ((ys.length : Int) - 1))) ⟨w.heap.size, 0, none⟩ = some (.int .i64 6) := (hN5.c 0).trans rfl
        have z1 : World.cell? (w2.setCell ⟨w.heap.size, 5, none⟩ (.int .i64 ((ys.length : Int) - 1))) ⟨w.heap.size, 1, none⟩ = some (.int .u64 0) := (hN5.c 1).trans rfl
        have z2 : World.cell? (w2.setCell ⟨w.heap.size, 5, none⟩ (.int .i64 ((ys.length : Int) - 1))) ⟨w.heap.size, 2, none⟩ = some (.int .u64 0) := (hN5.c 2).trans rfl
        have z3 : World.cell? (w2.setCell ⟨w.heap.size, 5, none⟩ (.int .i64 ((ys.length : Int) - 1))) ⟨w.heap.size, 3, none⟩ = some (.int .u64 0) := (hN5.c 3).trans rfl
        have z4 : World.cell? (w2.setCell ⟨w.heap.size, 5, none⟩ (.int .i64 ((ys.length : Int) - 1))) ⟨w.heap.size, 4, none⟩ = some (.int .u64 0) := (hN5.c 4).trans rfl
        have z5 : World.cell? (w2.setCell ⟨w.heap.size, 5, none⟩ (.int .i64 ((ys.length : Int) - 1))) ⟨w.heap.size, 5, none⟩ = some (.int .i64 ((ys.length : Int) - 1)) := (hN5.c 5).trans rfl
        have z6 : World.cell? (w2.setCell ⟨w.heap.size, 5, none⟩ (.int .i64 ((ys.length : Int) - 1))) ⟨w.heap.size, 6, none⟩ = some (.int .i64 0) := (hN5.c 6).trans rfl
        have z7 : World.cell? (w2.setCell ⟨w.heap.size, 5, none⟩ (.int .i64 ((ys.length : Int) - 1))) ⟨w.heap.size, 7, none⟩ = some (.int .i64 (m)) := (hN5.c 7).trans rfl
        have z8 : World.cell? (w2.setCell ⟨w.heap.size, 5, none⟩ (.int .i64 ((ys.length : Int) - 1))) ⟨w.heap.size, 8, none⟩ = some (.int .i64 (M)) := (hN5.c 8).trans rfl
        have z9 : World.cell? (w2.setCell ⟨w.heap.size, 5, none⟩ (.int .i64 ((ys.length : Int) - 1))) ⟨w.heap.size, 9, none⟩ = some (.int .i64 0) := (hN5.c 9).trans rfl
        have hN6 := NR.new (w2.setCell ⟨w.heap.size, 5, none⟩ (.int .i64 ((ys.length : Int) - 1))) ⟨6, 0, 0, 0, 0, (ys.length : Int) - 1, 0, m, M, 0⟩
        rw [size_set] at hN6
        have HN6 := Lib.hid hN6
        have HO := Lib.hid (own_set hrow2 (p := ⟨w.heap.size, 5, none⟩) hne2 (.int .i64 ((ys.length : Int) - 1)))
        have HG5 := Lib.hid (grown_set hgr5 (p := ⟨w.heap.size, 5, none⟩) (Nat.le_refl _) (.int .i64 ((ys.length : Int) - 1)))
        have HAT5 := Lib.hid hat5
        have hs4 := hN2.lt
        have HR : Hid (rr s (f + 1) a xs g = some (ys ++ [⟨6, 0, 0, 0, 0, (ys.length : Int) - 1, 0, m, M, 0⟩], g2, i2)) := Lib.hid (HRR.out.trans (by rw [hr2]; rfl))
        clear hN6 hrow2 hgr5 hat5 hN5 hN2 hgr2 hr2 hat2 HN1 HG1 HRR go2
        go_wp2_with (at_builtin; refine wpList_append_own_at _ rfl _ _ 27 rfl 0 47 i0 (.agg #[.int .i64 0, .int .u64 0, .int .u64 0, .int .u64 0, .int .u64 0, .int .i64 0, .int .i64 0, .int .i64 0, .int .i64 0, .int .i64 0]) 10 80 Tryd.underlying27 hi hz0 hz1 hz2 rfl (by decide) _ _ _ rfl (World.ownsRow.alloc HO.out _) ⟨w2.heap.size, 0, none⟩ 1 1 (Nd.cells ⟨6, 0, 0, 0, 0, (ys.length : Int) - 1, 0, m, M, 0⟩).toList rfl rfl ?qc2 ?qc3 ?qc4 ?qc5 ?qc6 ?_)
        case qc3 => exact one_cells _
        case qc4 => unfold maxLen; omega
        case qc5 => omega
        case qc6 => exact Nat.zero_le _
        case qc2 =>
          intro j u hj
          rw [Addr.add_lit, Nat.zero_add]
          refine (HN6.out.c j).trans ?_
          simpa using hj
        intro v' w6 hown6 hgrow hnil hat
        have h1 : RRow w6 0 v' (ys.length + 1) (ys ++ [⟨6, 0, 0, 0, 0, (ys.length : Int) - 1, 0, m, M, 0⟩]) := by unfold RRow; rw [flat_app]; exact hown6
        have hat6 : v'.ownBlock = v.ownBlock ∨ ∃ b, v'.ownBlock = some b ∧ w.heap.size ≤ b := by
          rcases hat with e | e
          · rcases HAT5.out with e' | ⟨b, e', hb⟩
            · exact .inl (e.trans e')
            · exact .inr ⟨b, e.trans e', hb⟩
          · exact .inr ⟨_, e, by first | omega | (simp [World.setCell] <;> omega)⟩
        have hgr6 : w.grownBy w6 v.ownBlock := grown_more (grown_alloc HG5.out _) (m := w.heap.size) (Nat.le_refl _) HAT5.out hgrow
        clear hown6 hgrow hnil hat HG5 HAT5 HO HN6 z0 z1 z2 z3 z4 z5 z6 z7 z8 z9 cA fA
        go_wp2
        refine bodyPost_ret (v := .tuple #[v', .int .i64 (g2 : Int), .int .i64 ((i2 : Int))]) (by simp [results, Tryd.results14, go_sem]) rfl ?_
        exact RdP.ok HR.out rfl (by simp) (by simp) hgr6 h1 hat6
      · have HR : Hid (rr s (f + 1) a xs g = none) := Lib.hid (HRR.out.trans (by rw [hr2]; rfl))
        have HG5 := HG1.out.trans hgr2
        clear hgr2 hr2 HN1 HG1 HRR
        go_wp2
        refine bodyPost_ret (v := .tuple #[v, .int .i64 (g : Int), .int .i64 (-1)]) (by simp [results, Tryd.results14, go_sem]) rfl ?_
        exact RdP.bad HR.out HG5

set_option maxRecDepth 100000 in
set_option maxHeartbeats 8000000 in
theorem read_group (s : List UInt8) (hl : s.length ≤ 100000) (f d a g : Nat) (hd : d + f = 130) (xs : List Nd) (v : Value) (w : World) (hg : g ≤ a) (hx : xs.length ≤ a) (hrow : RRow w 0 v xs.length xs) (H : RdC s f) (ha : s[a]? = some 40) :
    Calls Tryd.prog 14 #[.string ⟨s.toArray⟩, .int .i64 (a : Int), v, .int .i64 (g : Int), .int .i64 (d : Int)] w (RdP w v (rr s (f + 1) a xs g)) := by
  obtain ⟨i0, hi, hz0, hz1, hz2⟩ := info_parts infoRn
  have hlt := (List.getElem?_eq_some_iff.1 ha).1
  have hx1 := fun w => ridx_c s hl a _ ha w
  have g1 : ((s.length : Int) ≤ a) = False := by simp; omega
  have g2 : ((130 : Int) < d) = False := by simp; omega
  have ew : IntKind.i64.wrap ((a : Int) + 1) = (a : Int) + 1 := by simp [IntKind.wrap, IntKind.signed, IntKind.bits]; omega
  have ed : IntKind.i64.wrap ((d : Int) + 1) = (d : Int) + 1 := by simp [IntKind.wrap, IntKind.signed, IntKind.bits]; omega
  have eg : IntKind.i64.wrap ((g : Int) + 1) = (g : Int) + 1 := by simp [IntKind.wrap, IntKind.signed, IntKind.bits]; omega
  have hx2 : ∀ w, (Instr.index 9 (.string ⟨s.toArray⟩) (.int .i64 (a : Int))).run Tryd.prog w = .ok (.int .u8 40) w := hx1
  have hne := row_lt hrow
  have hrr : rr s (f + 1) a xs g = (rr s f (a + 1) xs (g + 1)).bind fun p => if s[p.2.2]? = some 41 then some (p.1 ++ [⟨7, 0, 0, 0, 0, (p.1.length : Int) - 1, 0, 0, 0, (g : Int) + 1⟩], p.2.1, p.2.2 + 1) else none := by
    simp [rr, ha]
  have hN1 := NR.new w ⟨7, 0, 0, 0, 0, 0, 0, 0, 0, (g : Int) + 1⟩
  have hgr1 : w.grownBy (w.alloc (.cells (Nd.cells ⟨7, 0, 0, 0, 0, 0, 0, 0, 0, (g : Int) + 1⟩) 47)) v.ownBlock := grown_alloc (grown_refl w _) _
  have IH1 := Lib.hid (H (d + 1) (a + 1) (g + 1) xs v _ (by omega) (by omega) (by omega) (by omega) (World.ownsRow.alloc hrow (.cells (Nd.cells ⟨7, 0, 0, 0, 0, 0, 0, 0, 0, (g : Int) + 1⟩) 47)))
  simp only [Int.natCast_add, Int.natCast_one] at IH1
  have HRR := Lib.hid hrr
  have HN1 := Lib.hid hN1
  have HG1 := Lib.hid hgr1
  clear hrr hN1 hgr1 H hx1 ha hrow
  go_enter Tryd.func14, Tryd.ntmps14
  go_wp2_with fail
  refine IH1.out.mono ?_
  clear IH1
  rintro e w2 ⟨hgr2, ⟨ys, g2, i2, v2, hr2, rfl, hrow2, hat2⟩ | ⟨hr2, v2, gz, rfl⟩⟩
  · have go2 := rr_goes s f (a + 1) xs (g + 1) _ hr2
    have q1 := go2.i; have q2 := go2.l; have q3 := go2.n; have q4 := go2.n1; have q5 := go2.g1
    simp only at q1 q2 q3 q4 q5
    have gi2 : ((i2 : Int) < 0) = False := by simp
    have hrr2 : rr s (f + 1) a xs g = if s[i2]? = some 41 then some (ys ++ [⟨7, 0, 0, 0, 0, (ys.length : Int) - 1, 0, 0, 0, (g : Int) + 1⟩], g2, i2 + 1) else none := by
      rw [HRR.out, hr2]; rfl
    by_cases hi2 : i2 < s.length
    · have gi3 : ((s.length : Int) ≤ i2) = False := by simp; omega
      obtain ⟨c, hc⟩ : ∃ c, s[i2]? = some c := ⟨s[i2], List.getElem?_eq_getElem hi2⟩
      have hxi := fun w => ridx_c s hl i2 c hc w
      by_cases hc41 : c = 41
      · subst hc41
        have hxj : ∀ w, (Instr.index 9 (.string ⟨s.toArray⟩) (.int .i64 (i2 : Int))).run Tryd.prog w = .ok (.int .u8 41) w := hxi
        clear hxi
        have hN2 := HN1.out.grown hgr2 (fun e => hne e.symm)
        have hne2 : v2.ownBlock ≠ some w.heap.size := by
          rcases hat2 with e | ⟨b, e, hb⟩
          · rw [e]; exact hne
          · rw [e]; intro q; cases q; (try simp at hb) <;> omega
        obtain ⟨b2, cap2, rfl⟩ := row_some hrow2 (by omega)
        have ly : ys.length ≤ 100000 := by omega
        have el : IntKind.i64.wrap ((ys.length : Int) - 1) = (ys.length : Int) - 1 := by simp [IntKind.wrap, IntKind.signed, IntKind.bits]; omega
        have hat5 : (Value.slice (some ⟨b2, 0, none⟩) ys.length cap2).ownBlock = v.ownBlock ∨ ∃ b, (Value.slice (some ⟨b2, 0, none⟩) ys.length cap2).ownBlock = some b ∧ w.heap.size ≤ b := by
          rcases hat2 with e' | ⟨b, e', hb⟩
          · exact .inl e'
          · exact .inr ⟨b, e', by (try simp at hb) <;> omega⟩
        have hgr5 := HG1.out.trans hgr2
        have ei : IntKind.i64.wrap ((i2 : Int) + 1) = (i2 : Int) + 1 := by simp [IntKind.wrap, IntKind.signed, IntKind.bits]; omega
        have cA : w2.cell? ⟨w.heap.size, 5, none⟩ = some (.int .i64 0) := (hN2.c 5).trans rfl
        have fA := hN2.fz 5
        have hN5 := hN2.setA ((ys.length : Int) - 1)
        have z0 : World.cell? (w2.setCell ⟨w.heap.size, 5, none⟩ (.int .i64 ((ys.length : Int) - 1))) ⟨w.heap.size, 0, none⟩ = some (.int .i64 7) := (hN5.c 0).trans rfl
        have z1 : World.cell? (w2.setCell ⟨w.heap.size, 5, none⟩ (.int .i64 ((ys.length : Int) - 1))) ⟨w.heap.size, 1, none⟩ = some (.int .u64 0) := (hN5.c 1).trans rfl
        have z2 : World.cell? (w2.setCell ⟨w.heap.size, 5, none⟩ (.int .i64 ((ys.length : Int) - 1))) ⟨w.heap.size, 2, none⟩ = some (.int .u64 0) := (hN5.c 2).trans rfl
        have z3 : World.cell? (w2.setCell ⟨w.heap.size, 5, none⟩ (.int .i64 ((ys.length : Int) - 1))) ⟨w.heap.size, 3, none⟩ = some (.int .u64 0) := (hN5.c 3).trans rfl
        have z4 : World.cell? (w2.setCell ⟨w.heap.size, 5, none⟩ (.int .i64 ((ys.length : Int) - 1))) ⟨w.heap.size, 4, none⟩ = some (.int .u64 0) := (hN5.c 4).trans rfl
        have z5 : World.cell? (w2.setCell ⟨w.heap.size, 5, none⟩ (.int .i64 ((ys.length : Int) - 1))) ⟨w.heap.size, 5, none⟩ = some (.int .i64 ((ys.length : Int) - 1)) := (hN5.c 5).trans rfl
        have z6 : World.cell? (w2.setCell ⟨w.heap.size, 5, none⟩ (.int .i64 ((ys.length : Int) - 1))) ⟨w.heap.size, 6, none⟩ = some (.int .i64 0) := (hN5.c 6).trans rfl
        have z7 : World.cell? (w2.setCell ⟨w.heap.size, 5, none⟩ (.int .i64 ((ys.length : Int) - 1))) ⟨w.heap.size, 7, none⟩ = some (.int .i64 0) := (hN5.c 7).trans rfl
        have z8 : World.cell? (w2.setCell ⟨w.heap.size, 5, none⟩ (.int .i64 ((ys.length : Int) - 1))) ⟨w.heap.size, 8, none⟩ = some (.int .i64 0) := (hN5.c 8).trans rfl
        have z9 : World.cell? (w2.setCell ⟨w.heap.size, 5, none⟩ (.int .i64 ((ys.length : Int) - 1))) ⟨w.heap.size, 9, none⟩ = some (.int .i64 ((g : Int) + 1)) := (hN5.c 9).trans rfl
        have hN6 := NR.new (w2.setCell ⟨w.heap.size, 5, none⟩ (.int .i64 ((ys.length : Int) - 1))) ⟨7, 0, 0, 0, 0, (ys.length : Int) - 1, 0, 0, 0, (g : Int) + 1⟩
        rw [size_set] at hN6
        have HN6 := Lib.hid hN6
        have HO := Lib.hid (own_set hrow2 (p := ⟨w.heap.size, 5, none⟩) hne2 (.int .i64 ((ys.length : Int) - 1)))
        have HG5 := Lib.hid (grown_set hgr5 (p := ⟨w.heap.size, 5, none⟩) (Nat.le_refl _) (.int .i64 ((ys.length : Int) - 1)))
        have HAT5 := Lib.hid hat5
        have hs4 := hN2.lt
        have HR : Hid (rr s (f + 1) a xs g = some (ys ++ [⟨7, 0, 0, 0, 0, (ys.length : Int) - 1, 0, 0, 0, (g : Int) + 1⟩], g2, i2 + 1)) := Lib.hid (hrr2.trans (if_pos hc))
        clear hrr2 hc
        clear hN6 hrow2 hgr5 hat5 hN5 hN2 hgr2 hr2 hat2 HN1 HG1 HRR go2
        go_wp2_with (at_builtin; refine wpList_append_own_at _ rfl _ _ 27 rfl 0 47 i0 (.agg #[.int .i64 0, .int .u64 0, .int .u64 0, .int .u64 0, .int .u64 0, .int .i64 0, .int .i64 0, .int .i64 0, .int .i64 0, .int .i64 0]) 10 80 Tryd.underlying27 hi hz0 hz1 hz2 rfl (by decide) _ _ _ rfl (World.ownsRow.alloc HO.out _) ⟨w2.heap.size, 0, none⟩ 1 1 (Nd.cells ⟨7, 0, 0, 0, 0, (ys.length : Int) - 1, 0, 0, 0, (g : Int) + 1⟩).toList rfl rfl ?qc2 ?qc3 ?qc4 ?qc5 ?qc6 ?_)
        case qc3 => exact one_cells _
        case qc4 => unfold maxLen; omega
        case qc5 => omega
        case qc6 => exact Nat.zero_le _
        case qc2 =>
          intro j u hj
          rw [Addr.add_lit, Nat.zero_add]
          refine (HN6.out.c j).trans ?_
          simpa using hj
        intro v' w6 hown6 hgrow hnil hat
        have h1 : RRow w6 0 v' (ys.length + 1) (ys ++ [⟨7, 0, 0, 0, 0, (ys.length : Int) - 1, 0, 0, 0, (g : Int) + 1⟩]) := by unfold RRow; rw [flat_app]; exact hown6
        have hat6 : v'.ownBlock = v.ownBlock ∨ ∃ b, v'.ownBlock = some b ∧ w.heap.size ≤ b := by
          rcases hat with e | e
          · rcases HAT5.out with e' | ⟨b, e', hb⟩
            · exact .inl (e.trans e')
            · exact .inr ⟨b, e.trans e', hb⟩
          · exact .inr ⟨_, e, by first | omega | (simp [World.setCell] <;> omega)⟩
        have hgr6 : w.grownBy w6 v.ownBlock := grown_more (grown_alloc HG5.out _) (m := w.heap.size) (Nat.le_refl _) HAT5.out hgrow
        clear hown6 hgrow hnil hat HG5 HAT5 HO HN6 z0 z1 z2 z3 z4 z5 z6 z7 z8 z9 cA fA
        go_wp2
        refine bodyPost_ret (v := .tuple #[v', .int .i64 (g2 : Int), .int .i64 ((i2 : Int) + 1)]) (by simp [results, Tryd.results14, go_sem]) rfl ?_
        exact RdP.ok HR.out rfl (by simp) (by simp) hgr6 h1 hat6
      · have hcn : ((c.toNat : Int) != 41) = true := by
          rw [bne_iff_ne]; intro e
          exact hc41 (UInt8.toNat_inj.1 (by show c.toNat = 41; omega))
        have HR : Hid (rr s (f + 1) a xs g = none) := Lib.hid (hrr2.trans (if_neg (by rw [hc]; simpa using hc41)))
        have HG5 : w.grownBy w2 v.ownBlock := HG1.out.trans hgr2
        clear hrr2 hc hc41 hgr2 hr2 hat2 hrow2 HN1 HG1 HRR go2
        generalize c.toNat = C at *
        go_wp2
        refine bodyPost_ret (v := .tuple #[v, .int .i64 (g : Int), .int .i64 (-1)]) (by simp [results, Tryd.results14, go_sem]) rfl ?_
        exact RdP.bad HR.out HG5
    · obtain rfl : i2 = s.length := by omega
      have gi3 : ((s.length : Int) ≤ s.length) = True := by simp
      have HR : Hid (rr s (f + 1) a xs g = none) := Lib.hid (hrr2.trans (if_neg (by simp)))
      have HG5 : w.grownBy w2 v.ownBlock := HG1.out.trans hgr2
      clear hrr2 hgr2 hr2 hat2 hrow2 HN1 HG1 HRR go2
      go_wp2
      refine bodyPost_ret (v := .tuple #[v, .int .i64 (g : Int), .int .i64 (-1)]) (by simp [results, Tryd.results14, go_sem]) rfl ?_
      exact RdP.bad HR.out HG5
  · have HR : Hid (rr s (f + 1) a xs g = none) := Lib.hid (HRR.out.trans (by rw [hr2]; rfl))
    have HG5 := HG1.out.trans hgr2
    clear hgr2 hr2 HN1 HG1 HRR
    go_wp2
    refine bodyPost_ret (v := .tuple #[v, .int .i64 (g : Int), .int .i64 (-1)]) (by simp [results, Tryd.results14, go_sem]) rfl ?_
    exact RdP.bad HR.out HG5

set_option maxRecDepth 100000 in
set_option maxHeartbeats 8000000 in
theorem read_ref (s : List UInt8) (hl : s.length ≤ 100000) (f d a g : Nat) (hd : d + f = 130) (xs : List Nd) (v : Value) (w : World) (hg : g ≤ a) (hx : xs.length ≤ a) (hrow : RRow w 0 v xs.length xs) (ha : s[a]? = some 92) :
    Calls Tryd.prog 14 #[.string ⟨s.toArray⟩, .int .i64 (a : Int), v, .int .i64 (g : Int), .int .i64 (d : Int)] w (RdP w v (rr s (f + 1) a xs g)) := by
  obtain ⟨i0, hi, hz0, hz1, hz2⟩ := info_parts infoRn
  have hlt := (List.getElem?_eq_some_iff.1 ha).1
  have hx1 := fun w => ridx_c s hl a _ ha w
  have g1 : ((s.length : Int) ≤ a) = False := by simp; omega
  have g2 : ((130 : Int) < d) = False := by simp; omega
  have ew : IntKind.i64.wrap ((a : Int) + 1) = (a : Int) + 1 := by simp [IntKind.wrap, IntKind.signed, IntKind.bits]; omega
  have ew2 : IntKind.i64.wrap ((a : Int) + 2) = (a : Int) + 2 := by simp [IntKind.wrap, IntKind.signed, IntKind.bits]; omega
  have hx2 : ∀ w, (Instr.index 9 (.string ⟨s.toArray⟩) (.int .i64 (a : Int))).run Tryd.prog w = .ok (.int .u8 92) w := hx1
  have hne := row_lt hrow
  have hrr : rr s (f + 1) a xs g = match s[a + 1]? with
      | none => none
      | some d => if 48 ≤ d.toNat ∧ d.toNat ≤ 57 then some (xs ++ [⟨8, 0, 0, 0, 0, 0, 0, 0, 0, (d.toNat : Int) - 48⟩], g, a + 2) else none := by
    simp [rr, ha]
    rfl
  have HG0 : w.grownBy (w.alloc (.cells (Nd.cells ⟨8, 0, 0, 0, 0, 0, 0, 0, 0, 0⟩) 47)) v.ownBlock := grown_alloc (grown_refl w _) _
  by_cases hl1 : a + 1 < s.length
  · have gl : ((a : Int) + 1 < s.length) = True := by simp; omega
    obtain ⟨c, hc⟩ : ∃ c, s[a + 1]? = some c := ⟨s[a + 1], List.getElem?_eq_getElem hl1⟩
    have hxc := fun w => idx_c1 s hl a c hc w
    rw [hc] at hrr
    simp only at hrr
    have hc256 := c.toNat_lt
    clear hc hx1 ha
    generalize c.toNat = C at *
    by_cases h48 : 48 ≤ C
    · have t1 : ((48 : Int) ≤ C) = True := by simp; omega
      by_cases h57 : C ≤ 57
      · have t2 : ((C : Int) ≤ 57) = True := by simp; omega
        rw [if_pos ⟨h48, h57⟩] at hrr
        have e2 : IntKind.u8.wrap ((C : Int) - 48) = (C : Int) - 48 := by simp [IntKind.wrap, IntKind.signed, IntKind.bits]; omega
        have e3 : IntKind.i64.wrap ((C : Int) - 48) = (C : Int) - 48 := by simp [IntKind.wrap, IntKind.signed, IntKind.bits]; omega
        have hN := NR.new (w.alloc (.cells (Nd.cells ⟨8, 0, 0, 0, 0, 0, 0, 0, 0, (C : Int) - 48⟩) 47)) ⟨8, 0, 0, 0, 0, 0, 0, 0, 0, (C : Int) - 48⟩
        rw [World.size_alloc] at hN
        have HR := Lib.hid hrr
        have HN := Lib.hid hN
        have HG := Lib.hid hrow
        clear hrr hN hrow HG0
        go_enter Tryd.func14, Tryd.ntmps14
        go_wp2_with (at_builtin; refine wpList_append_own_at _ rfl _ _ 27 rfl 0 47 i0 (.agg #[.int .i64 0, .int .u64 0, .int .u64 0, .int .u64 0, .int .u64 0, .int .i64 0, .int .i64 0, .int .i64 0, .int .i64 0, .int .i64 0]) 10 80 Tryd.underlying27 hi hz0 hz1 hz2 rfl (by decide) _ _ _ rfl ((HG.out.alloc _).alloc _) ⟨w.heap.size + 1, 0, none⟩ 1 1 (Nd.cells ⟨8, 0, 0, 0, 0, 0, 0, 0, 0, (C : Int) - 48⟩).toList rfl rfl ?qc2 ?qc3 ?qc4 ?qc5 ?qc6 ?_)
        case qc3 => exact one_cells _
        case qc4 => unfold maxLen; omega
        case qc5 => omega
        case qc6 => exact Nat.zero_le _
        case qc2 =>
          intro j u hj
          rw [Addr.add_lit, Nat.zero_add]
          refine (HN.out.c j).trans ?_
          simpa using hj
        intro v' w1 hown1 hgrow hnil hat
        have h1 : RRow w1 0 v' (xs.length + 1) (xs ++ [⟨8, 0, 0, 0, 0, 0, 0, 0, 0, (C : Int) - 48⟩]) := by unfold RRow; rw [flat_app]; exact hown1
        have hgr : w.grownBy w1 v.ownBlock := grown_more (grown_alloc (grown_alloc (grown_refl w _) _) _) (Nat.le_refl _) (.inl rfl) hgrow
        have hat2 : v'.ownBlock = v.ownBlock ∨ ∃ b, v'.ownBlock = some b ∧ w.heap.size ≤ b := by
          rcases hat with e | e
          · exact .inl e
          · exact .inr ⟨_, e, by first | omega | (simp <;> omega)⟩
        clear hown1 hgrow hnil hat HN HG
        go_wp2
        refine bodyPost_ret (v := .tuple #[v', .int .i64 (g : Int), .int .i64 ((a : Int) + 2)]) (by simp [results, Tryd.results14, go_sem]) rfl ?_
        exact RdP.ok HR.out rfl (by simp) (by simp) hgr h1 hat2
      · have t2 : ((C : Int) ≤ 57) = False := by simp; omega
        have HR : Hid (rr s (f + 1) a xs g = none) := Lib.hid (hrr.trans (if_neg (by omega)))
        clear hrr hrow
        go_enter Tryd.func14, Tryd.ntmps14
        go_wp2
        refine bodyPost_ret (v := .tuple #[v, .int .i64 (g : Int), .int .i64 (-1)]) (by simp [results, Tryd.results14, go_sem]) rfl ?_
        exact RdP.bad HR.out HG0
    · have t1 : ((48 : Int) ≤ C) = False := by simp; omega
      have HR : Hid (rr s (f + 1) a xs g = none) := Lib.hid (hrr.trans (if_neg (by omega)))
      clear hrr hrow
      go_enter Tryd.func14, Tryd.ntmps14
      go_wp2
      refine bodyPost_ret (v := .tuple #[v, .int .i64 (g : Int), .int .i64 (-1)]) (by simp [results, Tryd.results14, go_sem]) rfl ?_
      exact RdP.bad HR.out HG0
  · have gl : ((a : Int) + 1 < s.length) = False := by simp; omega
    rw [List.getElem?_eq_none (by omega)] at hrr
    have HR := Lib.hid hrr
    clear hrr hrow hx1 ha
    go_enter Tryd.func14, Tryd.ntmps14
    go_wp2
    refine bodyPost_ret (v := .tuple #[v, .int .i64 (g : Int), .int .i64 (-1)]) (by simp [results, Tryd.results14, go_sem]) rfl ?_
    exact RdP.bad HR.out HG0

set_option maxRecDepth 100000 in
set_option maxHeartbeats 8000000 in
theorem read_other (s : List UInt8) (hl : s.length ≤ 100000) (f d a g : Nat) (hd : d + f = 130) (xs : List Nd) (v : Value) (w : World) (hg : g ≤ a) (hx : xs.length ≤ a) (hrow : RRow w 0 v xs.length xs) (c : UInt8) (ha : s[a]? = some c) (h1 : c ≠ 101) (h2 : c ≠ 94) (h3 : c ≠ 36) (h4 : c ≠ 91) (h5 : c ≠ 38) (h6 : c ≠ 124) (h7 : c ≠ 42) (h8 : c ≠ 40) (h9 : c ≠ 92) :
    Calls Tryd.prog 14 #[.string ⟨s.toArray⟩, .int .i64 (a : Int), v, .int .i64 (g : Int), .int .i64 (d : Int)] w (RdP w v (rr s (f + 1) a xs g)) := by
  have hlt := (List.getElem?_eq_some_iff.1 ha).1
  have hx1 := fun w => ridx_c s hl a _ ha w
  have g1 : ((s.length : Int) ≤ a) = False := by simp; omega
  have g2 : ((130 : Int) < d) = False := by simp; omega
  have ew : IntKind.i64.wrap ((a : Int) + 1) = (a : Int) + 1 := by simp [IntKind.wrap, IntKind.signed, IntKind.bits]; omega
  have hrr : rr s (f + 1) a xs g = none := by simp [rr, ha, h1, h2, h3, h4, h5, h6, h7, h8, h9]
  have HG0 : w.grownBy (w.alloc (.cells (Nd.cells ⟨0, 0, 0, 0, 0, 0, 0, 0, 0, 0⟩) 47)) v.ownBlock := grown_alloc (grown_refl w _) _
  have ne : ∀ (k : Nat) (b : UInt8), b.toNat = k → c ≠ b → ((c.toNat : Int) == k) = false := fun k b e h => by
    rw [beq_eq_false_iff_ne]; intro q; exact h (UInt8.toNat_inj.1 (by omega))
  have m0 : ((c.toNat : Int) == 101) = false := ne 101 101 rfl h1
  have m1 : ((c.toNat : Int) == 94) = false := ne 94 94 rfl h2
  have m2 : ((c.toNat : Int) == 36) = false := ne 36 36 rfl h3
  have m3 : ((c.toNat : Int) == 91) = false := ne 91 91 rfl h4
  have m4 : ((c.toNat : Int) == 38) = false := ne 38 38 rfl h5
  have m5 : ((c.toNat : Int) == 124) = false := ne 124 124 rfl h6
  have m6 : ((c.toNat : Int) == 42) = false := ne 42 42 rfl h7
  have m7 : ((c.toNat : Int) == 40) = false := ne 40 40 rfl h8
  have m8 : ((c.toNat : Int) == 92) = false := ne 92 92 rfl h9
  have HR := Lib.hid hrr
  clear hrr hrow ha ne h1 h2 h3 h4 h5 h6 h7 h8 h9
  generalize c.toNat = C at *
  go_enter Tryd.func14, Tryd.ntmps14
  go_wp2
  refine bodyPost_ret (v := .tuple #[v, .int .i64 (g : Int), .int .i64 (-1)]) (by simp [results, Tryd.results14, go_sem]) rfl ?_
  exact RdP.bad HR.out HG0

end Go.Proofs.YthcgboebmhabeaaDoor
