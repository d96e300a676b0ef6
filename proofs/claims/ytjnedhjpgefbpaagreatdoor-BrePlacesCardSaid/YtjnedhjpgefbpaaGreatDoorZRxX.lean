/- hexOf. -/
import Derived.Test.YtjnedhjpgefbpaaGreatDoorZRxU
import Derived.Test.YtjnedhjpgefbpaaGreatDoorZSetJ
import Derived.Deep.AppendLies
namespace Go.Proofs.YtjnedhjpgefbpaaGreatDoor
open Go.RowKit Go.Lib
set_option linter.unusedVariables false
set_option linter.unusedSimpArgs false

theorem idx_dig (q : Nat) (hq : q < 16) (w : World) : (Instr.index 9 (.string ⟨#[48, 49, 50, 51, 52, 53, 54, 55, 56, 57, 97, 98, 99, 100, 101, 102]⟩) (.int .u8 (q : Int))).run Tryz.prog w = .ok (.int .u8 ((dig q).toNat : Int)) w := by
  rcases (by omega : q = 0 ∨ q = 1 ∨ q = 2 ∨ q = 3 ∨ q = 4 ∨ q = 5 ∨ q = 6 ∨ q = 7 ∨ q = 8 ∨ q = 9 ∨ q = 10 ∨ q = 11 ∨ q = 12 ∨ q = 13 ∨ q = 14 ∨ q = 15) with rfl | rfl | rfl | rfl | rfl | rfl | rfl | rfl | rfl | rfl | rfl | rfl | rfl | rfl | rfl | rfl <;> kernel_rfl
/-- The first k bytes as numbers of two digits each. -/
def hexn (s : ByteArray) (k : Nat) : List Int := (hexl (s.data.toList.take k)).map fun c => (c.toNat : Int)
theorem hexl_len (l : List UInt8) : (hexl l).length = 2 * l.length := by
  induction l with
  | nil => rfl
  | cons a l ih => simp only [hexl, List.flatMap_cons, List.length_append, List.length_cons, List.length_nil] at *; omega
theorem hexn_len (s : ByteArray) (k : Nat) (h : k ≤ s.size) : (hexn s k).length = 2 * k := by
  simp only [hexn, List.length_map, hexl_len, List.length_take]
  have : s.data.toList.length = s.size := by simp
  omega
theorem hexn_succ (s : ByteArray) (k : Nat) (h : k < s.size) : hexn s (k + 1) = hexn s k ++ [((dig (s[k].toNat / 16)).toNat : Int), ((dig (s[k].toNat % 16)).toNat : Int)] := by
  have h' : k < s.data.toList.length := by simpa using h
  have e : s[k] = s.data.toList[k] := rfl
  simp only [hexn]
  rw [List.take_succ_eq_append_getElem h']
  simp [hexl, e]

theorem run_index_op {P : Program} {o : Oper} {ev : Operand → Value} {x i : Operand} {t : TypeId} {xv iv v : Value} {w : World} (h : (Instr.index t xv iv).run P w = .ok v w) (ho : o.op = .index t x i) (hx : ev x = xv) (hi : ev i = iv) :
    (execOp ev o).run P w = .ok (.value v) w := by
  unfold execOp
  simp only [ho, hx, hi, h, Sem.run_bind, Sem.run_pure, Result.andThen_ok]

end Go.Proofs.YtjnedhjpgefbpaaGreatDoor
