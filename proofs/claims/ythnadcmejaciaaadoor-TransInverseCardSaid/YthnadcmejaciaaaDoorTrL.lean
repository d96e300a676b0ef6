/- table: the pieces of all bytes. -/
import Derived.Test.YthnadcmejaciaaaDoorTrK
namespace Go.Proofs.YthnadcmejaciaaaDoor
open Go.RowKit
set_option linter.unusedVariables false
set_option linter.unusedSimpArgs false

def sz : Nat → Value := fun _ => .string ByteArray.empty
theorem one_sz : oneAll sz := fun _ => rfl
def sval (f : Nat → List UInt8) : Nat → Value := fun i => .string ⟨(f i).toArray⟩
theorem one_sval (f : Nat → List UInt8) : oneAll (sval f) := fun _ => rfl
theorem infoS : (Tryd.prog.info? 66).map (fun i => (i.zero, i.size)) = some (some (.agg (garr sz)), 256) := by kernel_rfl
theorem rtS : RT 66 := ⟨⟨_, Tryd.underlying66⟩, (zero_of_info infoS).2⟩
/-- The named bytes' pieces. -/
def tb0 (i : Nat) : List UInt8 := if i = 7 then [92, 97] else if i = 8 then [92, 98] else if i = 9 then [92, 116] else if i = 10 then [92, 110] else if i = 11 then [92, 118] else if i = 12 then [92, 102] else if i = 13 then [92, 114] else if i = 92 then [92, 92] else []
theorem tb_list : ((((((((garr sz).toList.set 7 (.string ⟨#[92, 97]⟩)).set 8 (.string ⟨#[92, 98]⟩)).set 9 (.string ⟨#[92, 116]⟩)).set 10 (.string ⟨#[92, 110]⟩)).set 11 (.string ⟨#[92, 118]⟩)).set 12 (.string ⟨#[92, 102]⟩)).set 13 (.string ⟨#[92, 114]⟩)).set 92 (.string ⟨#[92, 92]⟩) = (garr (sval tb0)).toList := by
  rw [← Array.toList_setIfInBounds, ← Array.toList_setIfInBounds, ← Array.toList_setIfInBounds, ← Array.toList_setIfInBounds, ← Array.toList_setIfInBounds, ← Array.toList_setIfInBounds, ← Array.toList_setIfInBounds, ← Array.toList_setIfInBounds]
  rw [garr_set, garr_set, garr_set, garr_set, garr_set, garr_set, garr_set, garr_set]
  refine congrArg Array.toList (garr_congr fun i hi => ?_)
  by_cases h7 : i = 7
  · subst h7; rfl
  by_cases h8 : i = 8
  · subst h8; rfl
  by_cases h9 : i = 9
  · subst h9; rfl
  by_cases h10 : i = 10
  · subst h10; rfl
  by_cases h11 : i = 11
  · subst h11; rfl
  by_cases h12 : i = 12
  · subst h12; rfl
  by_cases h13 : i = 13
  · subst h13; rfl
  by_cases h92 : i = 92
  · subst h92; rfl
  simp only [h7, h8, h9, h10, h11, h12, h13, h92, if_false, sval, tb0, sz]
  rfl
/-- The piece of a number. -/
def pcn (i : Nat) : List UInt8 := pc (UInt8.ofNat i)
theorem tb0_some {k : Nat} (hk : k < 256) (h : tb0 k ≠ []) : tb0 k = pcn k := by
  have := List.all_eq_true.1 (show (List.range 256).all (fun k => decide (tb0 k = []) || decide (tb0 k = pcn k)) = true by decide +kernel) k (List.mem_range.2 hk)
  simpa [h] using this
theorem tb0_none {k : Nat} (hk : k < 256) (h : tb0 k = []) : pcx (UInt8.ofNat k) = pcn k := by
  have := List.all_eq_true.1 (show (List.range 256).all (fun k => !decide (tb0 k = []) || decide (pcx (UInt8.ofNat k) = pcn k)) = true by decide +kernel) k (List.mem_range.2 hk)
  simpa [h] using this

set_option maxRecDepth 100000 in
set_option maxHeartbeats 4000000 in
theorem table_c (w : World) :
    Calls Tryd.prog 33 #[] w fun e w' => e = .returned (.agg (garr (sval pcn))) ∧ Below w.heap.size w w' := by
  obtain ⟨hz, hsz⟩ := zero_of_info (P := Tryd.prog) infoS
  have hst0 := store_new (w.alloc (.cells (garr sz) 66)) rtS (sval tb0) sz (one_sval _)
  rw [World.size_alloc, ← tb_list] at hst0
  have HP := Lib.hid (fun b w => pieceof_c b w)
  go_enter Tryd.func33, Tryd.ntmps33
  go_wp2
  clear hst0
  go_loopw [4] (fun i wr => ∃ k : Nat, k ≤ 256 ∧ i = .int .i64 k ∧ GR 66 wr w.heap.size sz ∧ GR 66 wr (w.heap.size + 1) (sval fun j => if j < k then pcn j else tb0 j) ∧ Below w.heap.size w wr) (fun i _ => 256 - (intOf i).toNat)
  case atStart =>
    refine ⟨0, by omega, rfl, (GR.new _ w _).alloc _, ?_, ((Below.refl _ w).alloc (Nat.le_refl _) _).alloc (by simp) _⟩
    have := GR.new 66 (w.alloc (.cells (garr sz) 66)) (sval tb0)
    rw [World.size_alloc] at this
    exact this.congr fun i _ => by simp
  case round =>
    obtain ⟨k, hk, rfl, h0, h1, hB⟩ := hrel
    have lB := hB.size
    by_cases hlt : k < 256
    · have hc := h1.cell k hlt
      simp only [sval] at hc
      rw [if_neg (by omega)] at hc
      have hf := h1.fz k
      have hw := u8w k hlt
      obtain ⟨X, hX⟩ : ∃ X : ByteArray, X = ⟨(tb0 k).toArray⟩ := ⟨_, rfl⟩
      have hXl : X.toList = tb0 k := by rw [Lib.toList_data, hX]
      rw [← hX] at hc
      by_cases hn : tb0 k = []
      · have e1 : X.toList.isEmpty = true := by rw [hXl, hn]; rfl
        have e2 : (!X.toList.isEmpty) = false := by rw [e1]; rfl
        have e3 : X.toList = [] := by rw [hXl, hn]
        have hbk : (UInt8.ofNat k).toNat = k := by rw [UInt8.toNat_ofNat']; omega
        have hpp := HP.out (UInt8.ofNat k)
        rw [hbk, tb0_none hlt hn] at hpp
        have HPP := Lib.hid hpp
        clear hX hXl hn hbk hpp
        have hlw : ∀ w1, Below wr.heap.size wr w1 → (w.heap.size + 1 < w1.heap.size) := fun w1 h => by have := h.size; have := h1.lt; omega
        go_wp2_with fail
        refine (HPP.out _).mono ?_
        rintro e w1 ⟨rfl, hB1⟩
        have h1' := h1.beside hB1
        have h0' := h0.beside hB1
        have hf' := h1'.fz k
        have hc' := h1'.cell k hlt
        clear hlw
        go_wp2
        go_roundw
        case rel =>
          refine ⟨k + 1, by omega, by simp, h0'.other (by simp) _, (h1'.set k _).congr fun i _ => ?_, ((hB.trans (hB1.mono lB)).setCell (p := ⟨w.heap.size + 1, k, none⟩) (by simp) _)⟩
          by_cases e : i = k
          · subst e; simp [sval]
          · have e2 : (i < k + 1) = (i < k) := propext (by omega)
            simp only [sval, e, e2, if_false]
        case measure => simp [intOf]; omega
      · have e1 : X.toList.isEmpty = false := by rw [hXl]; cases h : tb0 k <;> simp_all
        have e2 : (!X.toList.isEmpty) = true := by rw [e1]; rfl
        have e3 : ¬ X.toList = [] := by rw [hXl]; exact hn
        have HT := Lib.hid (tb0_some hlt hn)
        clear hX hXl hn
        go_wp2
        go_roundw
        case rel =>
          refine ⟨k + 1, by omega, by simp, h0, h1.congr fun i _ => ?_, hB⟩
          simp only [sval]
          by_cases e : i = k
          · subst e; rw [if_neg (by omega), if_pos (by omega), HT.out]
          · have e2 : (i < k + 1) = (i < k) := propext (by omega)
            simp only [e2]
        case measure => simp [intOf]; omega
    · obtain rfl : k = 256 := by omega
      have h1 := h1.congr (f := sval pcn) (fun i hi => by simp [hi, sval])
      have hst := h0.storeCells rtS (sval pcn) (one_sval pcn)
      go_wp2
      refine wp_load_gr h1 rtS rfl rfl ?_
      go_wp2
      have q := h0.put (sval pcn)
      have ql := q.load rtS
      refine bodyPost_ret (v := .agg (garr (sval pcn))) ?_ rfl ⟨rfl, Below.setRow hB (by omega) _⟩
      simp [results, Tryd.results33, asAddr, Result.andThen, ql]

end Go.Proofs.YthnadcmejaciaaaDoor
