/- pieceOf; the reference's Piece. -/
import Derived.Test.YthnadcmejaciaaaDoorTrJ
import Derived.Test.YthnadcmejaciaaaDoorTrE
namespace Go.Proofs.YthnadcmejaciaaaDoor
open Go.RowKit
set_option linter.unusedVariables false
set_option linter.unusedSimpArgs false

def pcx (b : UInt8) : List UInt8 := if b < 32 ∨ 126 < b then [92, 48 + b / 64, 48 + b / 8 % 8, 48 + b % 8] else [b]
/-- string([]byte{..}): a row that was just made. -/
theorem conv_new (w : World) (l : List UInt8) (n : Nat) (hn : l.length = n) (C : Array Value) (hC : C.toList = l.map bval) :
    (convert 49 9 (.slice (some ⟨w.heap.size, 0, none⟩) n n)).run Tryd.prog (w.alloc (.cells C 5)) = .ok (.string ⟨l.toArray⟩) (w.alloc (.cells C 5)) := by
  subst hn
  refine run_convert_bytes_back (P := Tryd.prog) _ 49 9 5 ⟨w.heap.size, 0, none⟩ l.length l Tryd.underlying49 Tryd.underlying5 Tryd.underlying9 (fun j hj => ?_)
  rw [Addr.add_lit, Nat.zero_add, cell_of _ _ _ _ (heap_new _ _), ← Array.getElem?_toList, hC]
  simp [bval, List.getElem?_eq_getElem hj]
theorem u8_d1 (b : UInt8) : (48 + b / 64).toNat = 48 + b.toNat / 64 := by
  have := b.toNat_lt
  rw [UInt8.toNat_add, UInt8.toNat_div]
  show (48 + b.toNat / 64) % 2 ^ 8 = _
  omega
theorem u8_d2 (b : UInt8) : (48 + b / 8 % 8).toNat = 48 + b.toNat / 8 % 8 := by
  have := b.toNat_lt
  rw [UInt8.toNat_add, UInt8.toNat_mod, UInt8.toNat_div]
  show (48 + b.toNat / 8 % 8) % 2 ^ 8 = _
  omega
theorem u8_d3 (b : UInt8) : (48 + b % 8).toNat = 48 + b.toNat % 8 := by
  have := b.toNat_lt
  rw [UInt8.toNat_add, UInt8.toNat_mod]
  show (48 + b.toNat % 8) % 2 ^ 8 = _
  omega

set_option maxRecDepth 100000 in
set_option maxHeartbeats 4000000 in
theorem pieceof_c (b : UInt8) (w : World) :
    Calls Tryd.prog 41 #[.int .u8 b.toNat] w fun e w' => e = .returned (.string ⟨(pcx b).toArray⟩) ∧ Below w.heap.size w w' := by
  have hl := b.toNat_lt
  by_cases h : b.toNat < 32 ∨ 126 < b.toNat
  · have hp : pcx b = [92, 48 + b / 64, 48 + b / 8 % 8, 48 + b % 8] := by
      unfold pcx
      rw [if_pos (h.imp (fun h => UInt8.lt_iff_toNat_lt.2 h) (fun h => UInt8.lt_iff_toNat_lt.2 h))]
    rw [hp]
    have hcv := conv_new w [92, 48 + b / 64, 48 + b / 8 % 8, 48 + b % 8] 4 rfl #[.int .u8 92, .int .u8 (48 + (b.toNat : Int) / 64), .int .u8 (48 + (b.toNat : Int) / 8 % 8), .int .u8 (48 + (b.toNat : Int) % 8)] (by
      simp [bval, u8_d1, u8_d2, u8_d3]
      omega)
    have hB : Below w.heap.size w (w.alloc (.cells #[.int .u8 92, .int .u8 (48 + (b.toNat : Int) / 64), .int .u8 (48 + (b.toNat : Int) / 8 % 8), .int .u8 (48 + (b.toNat : Int) % 8)] 5)) := (Below.refl _ w).alloc (Nat.le_refl _) _
    have HB := Lib.hid hB
    generalize [92, 48 + b / 64, 48 + b / 8 % 8, 48 + b % 8] = L at hcv ⊢
    clear hp hB
    by_cases h1 : b.toNat < 32
    · have t1 : (b.toNat : Int) < 32 := by omega
      clear h h1
      go_enter Tryd.func41, Tryd.ntmps41
      go_wp2
      go_ret
      exact ⟨rfl, HB.out⟩
    · have t1 : ¬ (b.toNat : Int) < 32 := by omega
      have t2 : (126 : Int) < (b.toNat : Int) := by omega
      clear h h1
      go_enter Tryd.func41, Tryd.ntmps41
      go_wp2
      go_ret
      exact ⟨rfl, HB.out⟩
  · have hp : pcx b = [b] := by
      unfold pcx
      rw [if_neg (fun hh => h (hh.imp (fun h => by simpa using UInt8.lt_iff_toNat_lt.1 h) (fun h => by simpa using UInt8.lt_iff_toNat_lt.1 h)))]
    rw [hp]
    have hcv := conv_new w [b] 1 rfl #[.int .u8 (b.toNat : Int)] (by simp [bval])
    have hB : Below w.heap.size w (w.alloc (.cells #[.int .u8 (b.toNat : Int)] 5)) := (Below.refl _ w).alloc (Nat.le_refl _) _
    have HB := Lib.hid hB
    generalize [b] = L at hcv ⊢
    have t1 : ¬ (b.toNat : Int) < 32 := by omega
    have t2 : ¬ (126 : Int) < (b.toNat : Int) := by omega
    clear hp hB h
    go_enter Tryd.func41, Tryd.ntmps41
    go_wp2
    go_ret
    exact ⟨rfl, HB.out⟩

theorem pc_92 : pc 92 = [92, 92] := by decide
theorem pc_other (b : UInt8) (h : ¬ (7 ≤ b.toNat ∧ b.toNat ≤ 13)) (h2 : b.toNat ≠ 92) : pc b = pcx b := by
  have e : ∀ k : Nat, k < 256 → b = UInt8.ofNat k → b.toNat = k := fun k hk hb => by rw [hb, UInt8.toNat_ofNat']; omega
  unfold pc pcx
  rw [if_neg (fun hb => by have := e 7 (by omega) hb; omega), if_neg (fun hb => by have := e 8 (by omega) hb; omega), if_neg (fun hb => by have := e 9 (by omega) hb; omega), if_neg (fun hb => by have := e 10 (by omega) hb; omega),
    if_neg (fun hb => by have := e 11 (by omega) hb; omega), if_neg (fun hb => by have := e 12 (by omega) hb; omega), if_neg (fun hb => by have := e 13 (by omega) hb; omega), if_neg (fun hb => by have := e 92 (by omega) hb; omega)]

set_option maxRecDepth 100000 in
set_option maxHeartbeats 4000000 in
theorem rpiece_c (b : UInt8) (w : World) :
    Calls Tryd.prog 31 #[.int .u8 b.toNat] w fun e w' => e = .returned (.string ⟨(pc b).toArray⟩) ∧ Below w.heap.size w w' := by
  have hl := b.toNat_lt
  by_cases h92 : b.toNat = 92
  · obtain rfl : b = 92 := UInt8.toNat_inj.1 h92
    rw [pc_92]
    rw [show ((92 : UInt8).toNat : Int) = 92 from rfl]
    clear h92 hl
    go_enter Tryd.func31, Tryd.ntmps31
    go_wp2
    go_ret
    exact ⟨rfl, Below.refl _ _⟩
  · by_cases hnm : 7 ≤ b.toNat ∧ b.toNat ≤ 13
    · rcases (by omega : b.toNat = 7 ∨ b.toNat = 8 ∨ b.toNat = 9 ∨ b.toNat = 10 ∨ b.toNat = 11 ∨ b.toNat = 12 ∨ b.toNat = 13) with h | h | h | h | h | h | h
      all_goals
        have hq : pc b = pc (UInt8.ofNat b.toNat) := by rw [UInt8.ofNat_toNat]
        rw [hq, h]
        clear hq h hnm h92 hl
        go_enter Tryd.func31, Tryd.ntmps31
        go_wp2
        go_ret
        exact ⟨by first | rfl | decide, Below.refl _ _⟩
    · rw [pc_other b hnm h92]
      have q92 : ((b.toNat : Int) == 92) = false := by rw [beq_eq_false_iff_ne]; omega
      by_cases h : b.toNat < 32 ∨ 126 < b.toNat
      · have hp : pcx b = [92] ++ [48 + b / 64, 48 + b / 8 % 8, 48 + b % 8] := by
          unfold pcx
          rw [if_pos (h.imp (fun h => UInt8.lt_iff_toNat_lt.2 h) (fun h => UInt8.lt_iff_toNat_lt.2 h))]; rfl
        rw [hp, ← ba_app]
        have hcv := conv_new w [48 + b / 64, 48 + b / 8 % 8, 48 + b % 8] 3 rfl #[.int .u8 (48 + (b.toNat : Int) / 64), .int .u8 (48 + (b.toNat : Int) / 8 % 8), .int .u8 (48 + (b.toNat : Int) % 8)] (by
          simp [bval, u8_d1, u8_d2, u8_d3]
          omega)
        have hB : Below w.heap.size w (w.alloc (.cells #[.int .u8 (48 + (b.toNat : Int) / 64), .int .u8 (48 + (b.toNat : Int) / 8 % 8), .int .u8 (48 + (b.toNat : Int) % 8)] 5)) := (Below.refl _ w).alloc (Nat.le_refl _) _
        have HB := Lib.hid hB
        obtain ⟨T, hT⟩ : ∃ T : ByteArray, T = ⟨([48 + b / 64, 48 + b / 8 % 8, 48 + b % 8] : List UInt8).toArray⟩ := ⟨_, rfl⟩
        have hTs : T.size = 3 := by rw [hT]; rfl
        rw [← hT] at hcv ⊢
        have hb1 : (9223372036854775807 < 1 + T.size) = False := by simp; omega
        have hb2 : (9223372036854775807 < 1 + (T.size : Int)) = False := by simp; omega
        clear hp hB hT hTs
        by_cases h7 : 7 ≤ b.toNat
        · have t7 : (7 : Int) ≤ (b.toNat : Int) := by omega
          have t13 : ¬ (b.toNat : Int) ≤ 13 := by omega
          by_cases h1 : b.toNat < 32
          · have t1 : (b.toNat : Int) < 32 := by omega
            clear h h1 h7 h92 hnm
            go_enter Tryd.func31, Tryd.ntmps31
            go_wp2
            go_ret
            exact ⟨rfl, HB.out⟩
          · have t1 : ¬ (b.toNat : Int) < 32 := by omega
            have t2 : (126 : Int) < (b.toNat : Int) := by omega
            clear h h1 h7 h92 hnm
            go_enter Tryd.func31, Tryd.ntmps31
            go_wp2
            go_ret
            exact ⟨rfl, HB.out⟩
        · have t7 : ¬ (7 : Int) ≤ (b.toNat : Int) := by omega
          have t1 : (b.toNat : Int) < 32 := by omega
          clear h h7 h92 hnm
          go_enter Tryd.func31, Tryd.ntmps31
          go_wp2
          go_ret
          exact ⟨rfl, HB.out⟩
      · have hp : pcx b = [b] := by
          unfold pcx
          rw [if_neg (fun hh => h (hh.imp (fun h => by simpa using UInt8.lt_iff_toNat_lt.1 h) (fun h => by simpa using UInt8.lt_iff_toNat_lt.1 h)))]
        rw [hp]
        have hcv := conv_new w [b] 1 rfl #[.int .u8 (b.toNat : Int)] (by simp [bval])
        have hB : Below w.heap.size w (w.alloc (.cells #[.int .u8 (b.toNat : Int)] 5)) := (Below.refl _ w).alloc (Nat.le_refl _) _
        have HB := Lib.hid hB
        generalize [b] = L at hcv ⊢
        have t1 : ¬ (b.toNat : Int) < 32 := by omega
        have t2 : ¬ (126 : Int) < (b.toNat : Int) := by omega
        have t7 : (7 : Int) ≤ (b.toNat : Int) := by omega
        have t13 : ¬ (b.toNat : Int) ≤ 13 := by omega
        clear hp hB h h92 hnm
        go_enter Tryd.func31, Tryd.ntmps31
        go_wp2
        go_ret
        exact ⟨rfl, HB.out⟩

end Go.Proofs.YthnadcmejaciaaaDoor
