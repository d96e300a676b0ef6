/- areNumbered's closure at a group; areNumbered. -/
import Derived.Test.YthbldjiibgnfmaaGreatDoorZRxF
namespace Go.Proofs.YthbldjiibgnfmaaGreatDoor
open Go.RowKit
set_option linter.unusedVariables false
set_option linter.unusedSimpArgs false

set_option maxRecDepth 100000 in
set_option maxHeartbeats 40000000 in
theorem tells_group (B b o0 n cap : Nat) (xs : List Nd) (hlen : xs.length = n) (hn : n ≤ 120) (nn : Int) (hN : isNum nn = true) (t : T) (ih : Tells B b o0 n cap xs t) : Tells B b o0 n cap xs (T.group nn t) := by
  intro o k g en w ha he hk hg hw
  have hr := ha.root
  rw [show o + (T.group nn t).size - 1 = k by omega] at hr
  have ha1 := Lib.hid ha
  clear ha
  simp only [T.root] at hr
  have lw := hw.size
  have lb := hw.lt
  have cl := hw.cl; have cg := hw.cg; have zg := hw.zg; have cf := hw.cf
  have hcell := hw.x.cell k _ hr
  have hN := num_of hN
  simp only [T.size] at he hg
  have tp := t.size_pos
  obtain ⟨p, rfl⟩ : ∃ p, k = p + 1 := ⟨k - 1, by omega⟩
  have ea : (o : Int) + t.size - 1 = (p : Int) := by omega
  rw [ea] at hcell
  have IT := Lib.hid fun w1 (hE : Env B b o0 n cap xs (g + 1) en w1) => ih o p (g + 1) en w1 ha1.out.1 (by omega) (by omega) (by omega) hE
  have d0 : w.cell? ⟨b, o0 + (p + 1) * 10, none⟩ = some (.int .i64 7) := hcell 0 _ rfl
  have d1 : w.cell? ⟨b, o0 + (p + 1) * 10 + 1, none⟩ = some (.int .u64 0) := hcell 1 _ rfl
  have d2 : w.cell? ⟨b, o0 + (p + 1) * 10 + 2, none⟩ = some (.int .u64 0) := hcell 2 _ rfl
  have d3 : w.cell? ⟨b, o0 + (p + 1) * 10 + 3, none⟩ = some (.int .u64 0) := hcell 3 _ rfl
  have d4 : w.cell? ⟨b, o0 + (p + 1) * 10 + 4, none⟩ = some (.int .u64 0) := hcell 4 _ rfl
  have d5 : w.cell? ⟨b, o0 + (p + 1) * 10 + 5, none⟩ = some (.int .i64 p) := hcell 5 _ rfl
  have d6 : w.cell? ⟨b, o0 + (p + 1) * 10 + 6, none⟩ = some (.int .i64 0) := hcell 6 _ rfl
  have d7 : w.cell? ⟨b, o0 + (p + 1) * 10 + 7, none⟩ = some (.int .i64 0) := hcell 7 _ rfl
  have d8 : w.cell? ⟨b, o0 + (p + 1) * 10 + 8, none⟩ = some (.int .i64 0) := hcell 8 _ rfl
  have d9 : w.cell? ⟨b, o0 + (p + 1) * 10 + 9, none⟩ = some (.int .i64 nn) := hcell 9 _ rfl
  clear hcell ih ha1 hr
  have kB : Keep B w ((w.alloc (.cells #[.int .i64 7, .int .u64 0, .int .u64 0, .int .u64 0, .int .u64 0, .int .i64 p, .int .i64 0, .int .i64 0, .int .i64 0, .int .i64 nn] 37)).setCell ⟨B + 1, 0, none⟩ (.int .i64 ((g : Int) + 1))) := (Keep.alloc B w (by omega) (.cells #[.int .i64 7, .int .u64 0, .int .u64 0, .int .u64 0, .int .u64 0, .int .i64 p, .int .i64 0, .int .i64 0, .int .i64 0, .int .i64 nn] 37)).setCell (B + 1) 0 (.inl rfl) _
  have cg1 := (hw.alloc (.cells #[.int .i64 7, .int .u64 0, .int .u64 0, .int .u64 0, .int .u64 0, .int .i64 p, .int .i64 0, .int .i64 0, .int .i64 0, .int .i64 nn] 37)).cg; have zg1 := (hw.alloc (.cells #[.int .i64 7, .int .u64 0, .int .u64 0, .int .u64 0, .int .u64 0, .int .i64 p, .int .i64 0, .int .i64 0, .int .i64 0, .int .i64 nn] 37)).zg
  by_cases e : nn = (g : Int) + 1
  · subst e
    have z0 : ((g : Int) + 1 != (g : Int) + 1) = false := by simp
    have hj : ((g : Int) + 1).toNat = g + 1 := by omega
    have hnum : num (T.group ((g : Int) + 1) t) (g, en) = (num t (g + 1, en)).map fun u => (u.1, fun i => if i = g + 1 then true else u.2 i) := by simp only [num, if_true, hj]
    rw [hnum]
    clear hnum
    generalize hu : num t (g + 1, en) = u at *
    have hE1 := (hw.alloc (.cells #[.int .i64 7, .int .u64 0, .int .u64 0, .int .u64 0, .int .u64 0, .int .i64 p, .int .i64 0, .int .i64 0, .int .i64 0, .int .i64 ((g : Int) + 1)] 37)).setg (g + 1) ((g : Int) + 1) (by omega)
    have X1 : NB ((w.alloc (.cells #[.int .i64 7, .int .u64 0, .int .u64 0, .int .u64 0, .int .u64 0, .int .i64 p, .int .i64 0, .int .i64 0, .int .i64 0, .int .i64 ((g : Int) + 1)] 37)).setCell ⟨B + 1, 0, none⟩ (.int .i64 ((g : Int) + 1))) w.heap.size ⟨7, 0, 0, 0, 0, p, 0, 0, 0, (g : Int) + 1⟩ := ⟨(set_other _ _ _ _ _ (by omega)).trans (NB.new w ⟨7, 0, 0, 0, 0, p, 0, 0, 0, (g : Int) + 1⟩).heap⟩
    have I1 := IT.out _ hE1
    have cfe := hE1.cf; have cge := hE1.cg
    have x5 : _ = some (Value.int .i64 p) := X1.c 5
    clear IT
    cases u with
    | none =>
      simp only [Post, Option.map_none] at I1 ⊢
      have I1 := Lib.hid I1
      go_enter Tryz.func79, Tryz.ntmps79
      go_wp2_with (go_at_call 79; refine I1.out.mono ?_; rintro e w1 ⟨rfl, hB⟩)
      go_ret
      exact ⟨rfl, kB.trans hB⟩
    | some v =>
      obtain ⟨g2, en2⟩ := v
      simp only [Post, Option.map_some] at I1 ⊢
      have I1 := Lib.hid I1
      have KB := Lib.hid kB
      clear kB
      go_enter Tryz.func79, Tryz.ntmps79
      go_wp2_with fail
      refine I1.out.mono ?_
      rintro e w1 ⟨⟨rfl, hE⟩, hB⟩
      have X2 := X1.keep hB (by omega) (by omega)
      have c9 : w1.cell? ⟨w.heap.size, 9, none⟩ = some (.int .i64 ((g : Int) + 1)) := X2.c 9
      have ce := hE.ce (g + 1) (by omega)
      have ze := hE.ze (g + 1)
      clear X1 I1 hE1 cfe cge x5 d0 d1 d2 d3 d4 d5 d6 d7 d8 d9 cg1 zg1 cl cg zg cf
      go_wp2
      go_ret
      exact ⟨⟨rfl, hE.sete (g + 1) (by omega)⟩, (KB.out.trans hB).setCell (B + 2) (g + 1) (.inr rfl) _⟩
  · have z0 : (nn != (g : Int) + 1) = true := by simpa using e
    have hnum : num (T.group nn t) (g, en) = none := by simp only [num, if_neg e]
    rw [hnum]
    simp only [Post]
    go_enter Tryz.func79, Tryz.ntmps79
    go_wp2
    go_ret
    exact ⟨rfl, kB⟩

end Go.Proofs.YthbldjiibgnfmaaGreatDoor
