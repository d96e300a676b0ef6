/- ofHex. -/
import Derived.Test.YtjnedhjpgefbpaaGreatDoorZRxTk
import Derived.Test.YtjnedhjpgefbpaaGreatDoorZRxY
import Derived.Test.YtjnedhjpgefbpaaGreatDoorZSetE
import Derived.BigQuiet
namespace Go.Proofs.YtjnedhjpgefbpaaGreatDoor
open Go.RowKit Go.Lib
set_option linter.unusedVariables false
set_option linter.unusedSimpArgs false

def strLen : Value → Nat
  | .string s => s.size
  | _ => 0

theorem strOf_pre (l : List UInt8) : strOfNums (l.map fun c => (c.toNat : Int)) = ⟨l.toArray⟩ := by
  apply ByteArray.ext
  apply Array.ext'
  rw [strOfNums_data, List.map_map]
  have hid : ∀ c : UInt8, UInt8.ofNat ((c.toNat : Int)).toNat = c := fun c => by simp
  simp [Function.comp_def, hid]

theorem indexByte_room (c : UInt8) : ∀ l : List UInt8, Lib.indexByte l c + 1 ≤ l.length
  | [] => by simp [Lib.indexByte]
  | b :: l => by
    have := indexByte_room c l
    unfold Lib.indexByte
    simp only [List.length_cons]
    split
    · omega
    · split <;> omega
theorem indexByte_dle (a : UInt8) : Lib.indexByte digs a ≤ 15 := by
  have := indexByte_room a digs
  have e : digs.length = 16 := rfl
  omega

theorem idx_c (a : UInt8) (w : World) : Calls Tryz.prog 61 #[.string ⟨#[48, 49, 50, 51, 52, 53, 54, 55, 56, 57, 97, 98, 99, 100, 101, 102]⟩, .int .u8 (a.toNat : Int)] w fun e w' => e = .returned (.int .i64 (Lib.indexByte digs a)) ∧ ∃ n, w' = w.drewN n := by
  refine (Tryz.strings_IndexByte ⟨#[48, 49, 50, 51, 52, 53, 54, 55, 56, 57, 97, 98, 99, 100, 101, 102]⟩ (a.toNat : Int) w).mono ?_
  rintro e w' ⟨rfl, rfl⟩
  refine ⟨?_, 0, rfl⟩
  have e1 : ((a.toNat : Int)).toNat.toUInt8 = a := by simp
  rw [e1]
  rfl

end Go.Proofs.YtjnedhjpgefbpaaGreatDoor
