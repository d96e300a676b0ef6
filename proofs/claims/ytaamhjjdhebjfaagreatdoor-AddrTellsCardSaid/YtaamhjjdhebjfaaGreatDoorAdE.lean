/- begin: the state of a range behind its first line, but for the drawn part. -/
import Derived.Test.YtaamhjjdhebjfaaGreatDoorAdD
namespace Go.Proofs.YtaamhjjdhebjfaaGreatDoor
open Go.RowKit
set_option linter.unusedVariables false
set_option linter.unusedSimpArgs false

theorem Below.al3 (w : World) (o1 o2 o3 : Obj) : Below w.heap.size w (((w.alloc o1).alloc o2).alloc o3) := by
  have h := Below.al2 w o1 o2
  exact h.alloc h.size o3
theorem Two.new3 (w : World) (o1 o2 : Obj) (t : TypeId) (v0 v1 : Value) : Two (((w.alloc o1).alloc o2).alloc (.cells #[v0, v1] t)) (w.heap.size + 1 + 1) t v0 v1 := by
  have h := Two.new ((w.alloc o1).alloc o2) t v0 v1
  rw [World.size_alloc, World.size_alloc] at h
  exact h
def opnV : Value := .func (.func 66) #[] #[]
set_option maxRecDepth 100000 in
set_option maxHeartbeats 4000000 in
theorem openif_c (b : Bool) (t : Int) (w : World) : Calls Tryz.prog 66 #[.bool b, .int .i64 t] w fun e w' => e = .returned (stv (opn b t)) ∧ Below w.heap.size w w' := by
  cases b
  · go_enter Tryz.func66, Tryz.ntmps66
    go_wp2
    refine bodyPost_ret (v := stv (opn false t)) (by simp [results, Tryz.results66, go_sem, stv, opn]) rfl ⟨rfl, (Below.refl _ w).alloc (Nat.le_refl _) _⟩
  · go_enter Tryz.func66, Tryz.ntmps66
    go_wp2
    refine bodyPost_ret (v := stv (opn true t)) (by simp [results, Tryz.results66, go_sem, stv, opn]) rfl ⟨rfl, (Below.refl _ w).alloc (Nat.le_refl _) _⟩
set_option maxRecDepth 100000 in
set_option maxHeartbeats 4000000 in
theorem never_c (a : Ad) (N : Int) (L : Bool) (hv : Value) (w : World) : Calls Tryz.prog 67 #[adv a, lnv N L hv] w fun e w' => e = .returned (stv (false, 0)) ∧ Below w.heap.size w w' := by
  obtain ⟨k, n, m⟩ := a
  unfold adv lnv
  go_enter Tryz.func67, Tryz.ntmps67
  go_wp2
  refine bodyPost_ret (v := stv (false, 0)) (by simp [results, Tryz.results67, go_sem, stv]) rfl ⟨rfl, Below.al3 w _ _ _⟩
set_option maxRecDepth 100000 in
set_option maxHeartbeats 4000000 in
theorem mulfrom_c (N o : Int) (h0 : 0 ≤ N) (h1 : N ≤ 999999999) (h2 : o ≤ 999999999) (w : World) : Calls Tryz.prog 73 #[.int .i64 N, .int .i64 o] w fun e w' => e = .returned (.int .i64 (mulFrom N o)) ∧ w' = w := by
  unfold mulFrom
  by_cases q : o ≤ 0
  · rw [if_pos q]
    have t1 : decide (o ≤ 0) = true := by simp [q]
    go_enter Tryz.func73, Tryz.ntmps73
    go_wp2
    go_ret
    exact ⟨rfl, rfl⟩
  · rw [if_neg q]
    have t1 : decide (o ≤ 0) = false := by simp; omega
    have p1 := Int.emod_lt_of_pos N (show 0 < o by omega)
    have p2 := Int.emod_nonneg N (show o ≠ 0 by omega)
    have p3 : N.tmod o = N % o := Int.tmod_eq_emod_of_nonneg h0
    have p4 : (o == 0) = false := by rw [beq_eq_false_iff_ne]; omega
    have p5 : ¬ o = 0 := by omega
    obtain ⟨x, hx⟩ : ∃ x, x = N % o := ⟨_, rfl⟩
    rw [← hx] at p1 p2 p3 ⊢
    clear hx
    by_cases q2 : x = 0
    · subst q2
      rw [if_pos rfl]
      have w1 : IntKind.i64.wrap N = N := by simp [IntKind.wrap, IntKind.signed, IntKind.bits]; omega
      have w2 : IntKind.i64.wrap (N - 0) = N := by simp [IntKind.wrap, IntKind.signed, IntKind.bits]; omega
      have w3 : IntKind.i64.wrap (0 : Int) = 0 := by decide
      go_enter Tryz.func73, Tryz.ntmps73
      go_wp2
      go_ret
      exact ⟨rfl, rfl⟩
    · rw [if_neg q2]
      have t3 : decide (0 < x) = true := by simp; omega
      have w1 : IntKind.i64.wrap x = x := by simp [IntKind.wrap, IntKind.signed, IntKind.bits]; omega
      have w2 : IntKind.i64.wrap (x - o) = x - o := by simp [IntKind.wrap, IntKind.signed, IntKind.bits]; omega
      have w3 : IntKind.i64.wrap (N - (x - o)) = N + o - x := by simp [IntKind.wrap, IntKind.signed, IntKind.bits]; omega
      go_enter Tryz.func73, Tryz.ntmps73
      go_wp2
      go_ret
      exact ⟨rfl, rfl⟩

set_option maxRecDepth 100000 in
set_option maxHeartbeats 4000000 in
theorem beg3_c (a : Ad) (N : Int) (L : Bool) (hv : Value) (b : Nat) (h0 : 0 ≤ N) (h1 : N ≤ 999999999) (h2 : a.n ≤ 999999999) (h3 : 0 ≤ a.n) (w : World) (hb : w.cell? ⟨b, 0, none⟩ = some opnV) :
    Calls Tryz.prog 68 #[adv a, lnv N L hv, .pointer (some ⟨b, 0, none⟩)] w fun e w' => e = .returned (stv (opn (decide (N < a.n)) a.n)) ∧ Below w.heap.size w w' := by
  obtain ⟨k, n, m⟩ := a
  simp only at h2 h3
  have HO := Lib.hid (fun w => openif_c ((decide (N < n))) (n) w)
  have hb3 : ∀ o1 o2 o3, (((w.alloc o1).alloc o2).alloc o3).cell? ⟨b, 0, none⟩ = some (.func (.func 66) #[] #[]) := fun o1 o2 o3 => cell_keep (Below.al3 w o1 o2 o3) hb
  clear hb
  unfold adv lnv
  have HB := Lib.hid (Below.al3 w)
  simp only
  clear h2 h3
  generalize (opn (decide (N < n)) n) = X at HO ⊢
  obtain ⟨x1, x2⟩ := X
  unfold stv at HO ⊢
  simp only at HO ⊢
  have HN := Lib.hid (fun o1 o2 => Two.new3 w o1 o2 44 (.bool false) (.int .i64 0))
  go_enter Tryz.func68, Tryz.ntmps68
  go_wp2_with fail
  refine (HO.out _).mono ?_
  rintro e w2 ⟨rfl, hB⟩
  have hT := (HN.out (.cells #[.int .i64 k, .int .i64 n, .int .i64 m] 23) (.cells #[.int .i64 N, .bool L, hv] 48)).beside hB
  have hS := Lib.hid (hT.s (.bool x1) (.int .i64 x2))
  have hB2 := (HB.out (.cells #[.int .i64 k, .int .i64 n, .int .i64 m] 23) (.cells #[.int .i64 N, .bool L, hv] 48) (.cells #[.bool false, .int .i64 0] 44))
  have hB3 := Lib.hid (Below.set2 (hB2.trans (hB.mono hB2.size)) (b := w.heap.size + 1 + 1) (by omega) (.bool x1) (.int .i64 x2))
  have c0 := hT.c0
  have c1 := hT.c1
  have f0 := hT.fz 0
  have f1 := hT.fz 1
  clear hB hB2 hT
  go_wp2
  refine bodyPost_ret (v := .agg #[.bool x1, .int .i64 x2]) (by simp [results, Tryz.results68, go_sem, hS.out.c0, hS.out.c1]) rfl ⟨rfl, hB3.out⟩
set_option maxRecDepth 100000 in
set_option maxHeartbeats 4000000 in
theorem beg4_c (a : Ad) (N : Int) (L : Bool) (hv : Value) (b : Nat) (h0 : 0 ≤ N) (h1 : N ≤ 999999999) (h2 : a.n ≤ 999999999) (h3 : 0 ≤ a.n) (w : World) (hb : w.cell? ⟨b, 0, none⟩ = some opnV) :
    Calls Tryz.prog 69 #[adv a, lnv N L hv, .pointer (some ⟨b, 0, none⟩)] w fun e w' => e = .returned (stv (opn (!L) 0)) ∧ Below w.heap.size w w' := by
  obtain ⟨k, n, m⟩ := a
  simp only at h2 h3
  have HO := Lib.hid (fun w => openif_c ((!L)) (0) w)
  have hb3 : ∀ o1 o2 o3, (((w.alloc o1).alloc o2).alloc o3).cell? ⟨b, 0, none⟩ = some (.func (.func 66) #[] #[]) := fun o1 o2 o3 => cell_keep (Below.al3 w o1 o2 o3) hb
  clear hb
  unfold adv lnv
  have HB := Lib.hid (Below.al3 w)
  simp only
  clear h2 h3
  generalize (opn (!L) 0) = X at HO ⊢
  obtain ⟨x1, x2⟩ := X
  unfold stv at HO ⊢
  simp only at HO ⊢
  have HN := Lib.hid (fun o1 o2 => Two.new3 w o1 o2 44 (.bool false) (.int .i64 0))
  go_enter Tryz.func69, Tryz.ntmps69
  go_wp2_with fail
  refine (HO.out _).mono ?_
  rintro e w2 ⟨rfl, hB⟩
  have hT := (HN.out (.cells #[.int .i64 k, .int .i64 n, .int .i64 m] 23) (.cells #[.int .i64 N, .bool L, hv] 48)).beside hB
  have hS := Lib.hid (hT.s (.bool x1) (.int .i64 x2))
  have hB2 := (HB.out (.cells #[.int .i64 k, .int .i64 n, .int .i64 m] 23) (.cells #[.int .i64 N, .bool L, hv] 48) (.cells #[.bool false, .int .i64 0] 44))
  have hB3 := Lib.hid (Below.set2 (hB2.trans (hB.mono hB2.size)) (b := w.heap.size + 1 + 1) (by omega) (.bool x1) (.int .i64 x2))
  have c0 := hT.c0
  have c1 := hT.c1
  have f0 := hT.fz 0
  have f1 := hT.fz 1
  clear hB hB2 hT
  go_wp2
  refine bodyPost_ret (v := .agg #[.bool x1, .int .i64 x2]) (by simp [results, Tryz.results69, go_sem, hS.out.c0, hS.out.c1]) rfl ⟨rfl, hB3.out⟩
set_option maxRecDepth 100000 in
set_option maxHeartbeats 4000000 in
theorem beg5_c (a : Ad) (N : Int) (L : Bool) (hv : Value) (b : Nat) (h0 : 0 ≤ N) (h1 : N ≤ 999999999) (h2 : a.n ≤ 999999999) (h3 : 0 ≤ a.n) (w : World) (hb : w.cell? ⟨b, 0, none⟩ = some opnV) :
    Calls Tryz.prog 70 #[adv a, lnv N L hv, .pointer (some ⟨b, 0, none⟩)] w fun e w' => e = .returned (stv (opn true 0)) ∧ Below w.heap.size w w' := by
  obtain ⟨k, n, m⟩ := a
  simp only at h2 h3
  have HO := Lib.hid (fun w => openif_c (true) (0) w)
  have hb3 : ∀ o1 o2 o3, (((w.alloc o1).alloc o2).alloc o3).cell? ⟨b, 0, none⟩ = some (.func (.func 66) #[] #[]) := fun o1 o2 o3 => cell_keep (Below.al3 w o1 o2 o3) hb
  clear hb
  unfold adv lnv
  have HB := Lib.hid (Below.al3 w)
  simp only
  clear h2 h3
  generalize (opn true 0) = X at HO ⊢
  obtain ⟨x1, x2⟩ := X
  unfold stv at HO ⊢
  simp only at HO ⊢
  have HN := Lib.hid (fun o1 o2 => Two.new3 w o1 o2 44 (.bool false) (.int .i64 0))
  go_enter Tryz.func70, Tryz.ntmps70
  go_wp2_with fail
  refine (HO.out _).mono ?_
  rintro e w2 ⟨rfl, hB⟩
  have hT := (HN.out (.cells #[.int .i64 k, .int .i64 n, .int .i64 m] 23) (.cells #[.int .i64 N, .bool L, hv] 48)).beside hB
  have hS := Lib.hid (hT.s (.bool x1) (.int .i64 x2))
  have hB2 := (HB.out (.cells #[.int .i64 k, .int .i64 n, .int .i64 m] 23) (.cells #[.int .i64 N, .bool L, hv] 48) (.cells #[.bool false, .int .i64 0] 44))
  have hB3 := Lib.hid (Below.set2 (hB2.trans (hB.mono hB2.size)) (b := w.heap.size + 1 + 1) (by omega) (.bool x1) (.int .i64 x2))
  have c0 := hT.c0
  have c1 := hT.c1
  have f0 := hT.fz 0
  have f1 := hT.fz 1
  clear hB hB2 hT
  go_wp2
  refine bodyPost_ret (v := .agg #[.bool x1, .int .i64 x2]) (by simp [results, Tryz.results70, go_sem, hS.out.c0, hS.out.c1]) rfl ⟨rfl, hB3.out⟩
set_option maxRecDepth 100000 in
set_option maxHeartbeats 4000000 in
theorem beg6_c (a : Ad) (N : Int) (L : Bool) (hv : Value) (b : Nat) (h0 : 0 ≤ N) (h1 : N ≤ 999999999) (h2 : a.n ≤ 999999999) (h3 : 0 ≤ a.n) (w : World) (hb : w.cell? ⟨b, 0, none⟩ = some opnV) :
    Calls Tryz.prog 71 #[adv a, lnv N L hv, .pointer (some ⟨b, 0, none⟩)] w fun e w' => e = .returned (stv (opn (decide (0 < a.n)) (N + a.n))) ∧ Below w.heap.size w w' := by
  obtain ⟨k, n, m⟩ := a
  simp only at h2 h3
  have HO := Lib.hid (fun w => openif_c (decide (0 < n)) (N + n) w)
  have hb3 : ∀ o1 o2 o3, (((w.alloc o1).alloc o2).alloc o3).cell? ⟨b, 0, none⟩ = some (.func (.func 66) #[] #[]) := fun o1 o2 o3 => cell_keep (Below.al3 w o1 o2 o3) hb
  clear hb
  unfold adv lnv
  have HB := Lib.hid (Below.al3 w)
  simp only
  have w1 : IntKind.i64.wrap (N + n) = N + n := by simp [IntKind.wrap, IntKind.signed, IntKind.bits]; omega
  clear h2 h3
  generalize (opn (decide (0 < n)) (N + n)) = X at HO ⊢
  obtain ⟨x1, x2⟩ := X
  unfold stv at HO ⊢
  simp only at HO ⊢
  have HN := Lib.hid (fun o1 o2 => Two.new3 w o1 o2 44 (.bool false) (.int .i64 0))
  go_enter Tryz.func71, Tryz.ntmps71
  go_wp2_with fail
  refine (HO.out _).mono ?_
  rintro e w2 ⟨rfl, hB⟩
  have hT := (HN.out (.cells #[.int .i64 k, .int .i64 n, .int .i64 m] 23) (.cells #[.int .i64 N, .bool L, hv] 48)).beside hB
  have hS := Lib.hid (hT.s (.bool x1) (.int .i64 x2))
  have hB2 := (HB.out (.cells #[.int .i64 k, .int .i64 n, .int .i64 m] 23) (.cells #[.int .i64 N, .bool L, hv] 48) (.cells #[.bool false, .int .i64 0] 44))
  have hB3 := Lib.hid (Below.set2 (hB2.trans (hB.mono hB2.size)) (b := w.heap.size + 1 + 1) (by omega) (.bool x1) (.int .i64 x2))
  have c0 := hT.c0
  have c1 := hT.c1
  have f0 := hT.fz 0
  have f1 := hT.fz 1
  clear hB hB2 hT
  go_wp2
  refine bodyPost_ret (v := .agg #[.bool x1, .int .i64 x2]) (by simp [results, Tryz.results71, go_sem, hS.out.c0, hS.out.c1]) rfl ⟨rfl, hB3.out⟩
set_option maxRecDepth 100000 in
set_option maxHeartbeats 4000000 in
theorem beg7_c (a : Ad) (N : Int) (L : Bool) (hv : Value) (b : Nat) (h0 : 0 ≤ N) (h1 : N ≤ 999999999) (h2 : a.n ≤ 999999999) (h3 : 0 ≤ a.n) (w : World) (hb : w.cell? ⟨b, 0, none⟩ = some opnV) :
    Calls Tryz.prog 72 #[adv a, lnv N L hv, .pointer (some ⟨b, 0, none⟩)] w fun e w' => e = .returned (stv (opn (decide (mulFrom N a.n ≠ N)) (mulFrom N a.n))) ∧ Below w.heap.size w w' := by
  obtain ⟨k, n, m⟩ := a
  simp only at h2 h3
  have HO := Lib.hid (fun w => openif_c (decide (mulFrom N n ≠ N)) (mulFrom N n) w)
  have hb3 : ∀ o1 o2 o3, (((w.alloc o1).alloc o2).alloc o3).cell? ⟨b, 0, none⟩ = some (.func (.func 66) #[] #[]) := fun o1 o2 o3 => cell_keep (Below.al3 w o1 o2 o3) hb
  clear hb
  unfold adv lnv
  have HB := Lib.hid (Below.al3 w)
  simp only
  have HM := Lib.hid (fun w => mulfrom_c N n h0 h1 h2 w)
  generalize mulFrom N n = M at HO HM ⊢
  rw [show decide (M ≠ N) = (M != N) by by_cases h : M = N <;> simp [h]] at HO ⊢
  clear h2 h3
  generalize (opn (M != N) M) = X at HO ⊢
  obtain ⟨x1, x2⟩ := X
  unfold stv at HO ⊢
  simp only at HO ⊢
  have HN := Lib.hid (fun o1 o2 => Two.new3 w o1 o2 44 (.bool false) (.int .i64 0))
  go_enter Tryz.func72, Tryz.ntmps72
  go_wp2_with fail
  refine (HM.out _).mono ?_
  rintro e w1 ⟨rfl, rfl⟩
  go_wp2_with fail
  refine (HO.out _).mono ?_
  rintro e w2 ⟨rfl, hB⟩
  have hT := (HN.out (.cells #[.int .i64 k, .int .i64 n, .int .i64 m] 23) (.cells #[.int .i64 N, .bool L, hv] 48)).beside hB
  have hS := Lib.hid (hT.s (.bool x1) (.int .i64 x2))
  have hB2 := (HB.out (.cells #[.int .i64 k, .int .i64 n, .int .i64 m] 23) (.cells #[.int .i64 N, .bool L, hv] 48) (.cells #[.bool false, .int .i64 0] 44))
  have hB3 := Lib.hid (Below.set2 (hB2.trans (hB.mono hB2.size)) (b := w.heap.size + 1 + 1) (by omega) (.bool x1) (.int .i64 x2))
  have c0 := hT.c0
  have c1 := hT.c1
  have f0 := hT.fz 0
  have f1 := hT.fz 1
  clear hB hB2 hT
  go_wp2
  refine bodyPost_ret (v := .agg #[.bool x1, .int .i64 x2]) (by simp [results, Tryz.results72, go_sem, hS.out.c0, hS.out.c1]) rfl ⟨rfl, hB3.out⟩

end Go.Proofs.YtaamhjjdhebjfaaGreatDoor
