/- The reference's Range and Or. -/
import Derived.Test.YtkmfncajdkdenaaGreatDoorYRxTr
import Derived.Test.YtkmfncajdkdenaaGreatDoorYRxU
set_option linter.unusedVariables false
set_option linter.unusedSimpArgs false
set_option maxRecDepth 100000
set_option maxHeartbeats 40000000
namespace Go.Proofs.YtkmfncajdkdenaaGreatDoor
open Go.RowKit
theorem rrange_c (a b : Nat) (ha : a < 256) (hb : b < 256) (w : World) :
  Calls Tryz.prog 25 #[.int .u8 a, .int .u8 b] w fun e w' => e = .returned (bv (rg a b)) ∧ Below w.heap.size w w' := by
 obtain ⟨hz, hsz⟩ := zero_of_info (P := Tryz.prog) info27
 have hst0 := store_fresh w
 unfold bv
 go_enter Tryz.func25, Tryz.ntmps25
 go_wp2
 clear hst0
 go_loopw [6] (fun i wr => ∃ k : Nat, a ≤ k ∧ (k ≤ b + 1 ∨ k = a) ∧ i = .int .i64 k ∧ Row wr w.heap.size (fun _ => false) ∧ Row wr (w.heap.size + 1) (fun j => decide (a ≤ j) && decide (j < k)) ∧ Below w.heap.size w wr) (fun i _ => 256 - (RowKit.intOf i).toNat)
 case atStart =>
  refine ⟨a, Nat.le_refl _, .inr rfl, rfl, (Row.new w _).alloc _, ?_, ((Below.refl _ w).alloc (Nat.le_refl _) _).alloc (by simp) _⟩
  have := Row.new (w.alloc (.cells (barr fun _ => false) 30)) (fun _ => false)
  rw [World.size_alloc] at this
  refine this.congr fun i _ => ?_
  have e : ¬ (a ≤ i ∧ i < a) := by omega
  rw [← Bool.decide_and, decide_eq_false e]
 case round =>
  obtain ⟨k, hak, hk, rfl, h0, h1, hB⟩ := hrel
  by_cases hlt : k ≤ b
  ·have hc := h1.cell k (by omega)
   have hcf := h1.fz k
   have hlt2 : k < 256 := by omega
   go_wp2
   go_roundw
   case rel =>
    refine ⟨k + 1, by omega, .inl (by omega), by simp, h0.other (p := ⟨w.heap.size + 1, k, none⟩) (by show w.heap.size ≠ w.heap.size + 1; omega) _, (h1.set k true).congr fun i _ => ?_, hB.setCell (p := ⟨w.heap.size + 1, k, none⟩) (by show w.heap.size ≤ w.heap.size + 1; omega) _⟩
    by_cases e : i = k
    ·subst e; simp [hak]
    ·have e2 : decide (i < k + 1) = decide (i < k) := decide_eq_decide.2 (by omega)
     simp [e, e2]
   case measure => (simp [RowKit.intOf]) <;> omega
  ·have h1 := h1.congr (g := rg a b) (fun i hi => by
    unfold rg
    rw [← Bool.decide_and, ← Bool.decide_and]
    exact decide_eq_decide.2 (by omega))
   have hst := h0.storeCells
   go_wp2
   refine wp_load_row h1 rfl rfl ?_
   go_wp2
   have q := h0.put (rg a b)
   have ql := q.load
   refine bodyPost_ret (v := .agg (barr (rg a b))) ?_ rfl ⟨rfl, Below.setRow hB (by omega) _⟩
   simp [results, Tryz.results25, asAddr, Result.andThen, ql]
theorem ror_c (f g : Nat → Bool) (w : World) :
  Calls Tryz.prog 23 #[bv f, bv g] w fun e w' => e = .returned (bv fun i => f i || g i) ∧ Below w.heap.size w w' := by
 obtain ⟨hz, hsz⟩ := zero_of_info (P := Tryz.prog) info27
 unfold bv
 go_enter Tryz.func23, Tryz.ntmps23
 go_wp2
 go_loopw [5] (fun i wr => ∃ k : Nat, k ≤ 256 ∧ i = .int .i64 k ∧ Row wr w.heap.size (fun j => if j < k then (f j || g j) else f j) ∧ Row wr (w.heap.size + 1) g ∧ Row wr (w.heap.size + 1 + 1) (fun _ => false) ∧ Below w.heap.size w wr) (fun i _ => 256 - (RowKit.intOf i).toNat)
 case atStart =>
  refine ⟨0, by omega, rfl, ?_, ?_, ?_, (((Below.refl _ w).alloc (Nat.le_refl _) _).alloc (by simp) _).alloc (by simp; omega) _⟩
  ·exact (((Row.new w f).alloc _).alloc _).congr fun i _ => by simp
  ·have := Row.new (w.alloc (.cells (barr f) 30)) g
   rw [World.size_alloc] at this
   exact this.alloc _
  ·have := Row.new ((w.alloc (.cells (barr f) 30)).alloc (.cells (barr g) 30)) (fun _ => false)
   rwa [World.size_alloc, World.size_alloc] at this
 case round =>
  obtain ⟨k, hk, rfl, h0, h1, h2, hB⟩ := hrel
  by_cases hlt : k < 256
  ·have hc := h0.cell k hlt
   rw [if_neg (by omega)] at hc
   have hf := h0.fz k
   have hg := h1.cell k hlt
   have hfin : ∀ (v : Bool), v = (f k || g k) → ∀ i, i < 256 → (if i = k then v else if i < k then (f i || g i) else f i) = (if i < k + 1 then (f i || g i) else f i) := fun v hv i _ => by
    by_cases e : i = k
    ·subst e; simp [hv]
    ·have e2 : (i < k + 1) = (i < k) := propext (by omega)
     simp [e, e2]
   have HF := Lib.hid hfin
   clear hfin
   cases hfk : f k
   ·cases hgk : g k
    all_goals (
     rw [hfk] at hc
     rw [hgk] at hg
     have HF2 := Lib.hid (HF.out _ (by rw [hfk, hgk]))
     clear hfk hgk HF
     go_wp2
     go_roundw
     case rel =>
      exact ⟨k + 1, by omega, by simp, (h0.set k _).congr HF2.out, h1.other (p := ⟨w.heap.size, k, none⟩) (by show w.heap.size + 1 ≠ w.heap.size; omega) _, h2.other (p := ⟨w.heap.size, k, none⟩) (by show w.heap.size + 1 + 1 ≠ w.heap.size; omega) _, hB.setCell (p := ⟨w.heap.size, k, none⟩) (Nat.le_refl _) _⟩
     case measure => (simp [RowKit.intOf]) <;> omega)
   ·rw [hfk] at hc
    have HF2 := Lib.hid (HF.out true (by rw [hfk]; rfl))
    clear hfk HF
    go_wp2
    go_roundw
    case rel =>
     exact ⟨k + 1, by omega, by simp, (h0.set k true).congr HF2.out, h1.other (p := ⟨w.heap.size, k, none⟩) (by show w.heap.size + 1 ≠ w.heap.size; omega) _, h2.other (p := ⟨w.heap.size, k, none⟩) (by show w.heap.size + 1 + 1 ≠ w.heap.size; omega) _, hB.setCell (p := ⟨w.heap.size, k, none⟩) (Nat.le_refl _) _⟩
    case measure => (simp [RowKit.intOf]) <;> omega
  ·obtain rfl : k = 256 := by omega
   have h0 := h0.congr (g := fun i => f i || g i) (fun i hi => by simp [hi])
   have hst := h2.storeCells
   go_wp2
   refine wp_load_row h0 rfl rfl ?_
   go_wp2
   have q := h2.put (fun i => f i || g i)
   have ql := q.load
   refine bodyPost_ret (v := .agg (barr fun i => f i || g i)) ?_ rfl ⟨rfl, Below.setRow hB (by omega) _⟩
   simp [results, Tryz.results23, asAddr, Result.andThen, ql]
end Go.Proofs.YtkmfncajdkdenaaGreatDoor
