/- Of no program: the class of a name. -/
import Derived.Test.YthbldjiibgnfmaaGreatDoorZSetZ
import Derived.Test.YthbldjiibgnfmaaGreatDoorZSetE
import Derived.Test.YthbldjiibgnfmaaGreatDoorZSetF
import Derived.Test.YthbldjiibgnfmaaGreatDoorZSetG
namespace Go.Proofs.YthbldjiibgnfmaaGreatDoor
open Go.RowKit
set_option linter.unusedVariables false
set_option linter.unusedSimpArgs false

theorem name_of {x : ByteArray} {l : List UInt8} (h : (x.toList == l) = true) : x = ⟨l.toArray⟩ := by
  rw [ByteArray.toList_eq] at h
  obtain ⟨⟨d⟩⟩ := x
  simp at h
  subst h
  rfl

/-- The class of a name, as the reference tells it. -/
def clsV (l : List UInt8) : (Nat → Bool) × Bool :=
  if l == [117, 112, 112, 101, 114] then (rg 65 90, true) else
  if l == [108, 111, 119, 101, 114] then (rg 97 122, true) else
  if l == [97, 108, 112, 104, 97] then (fun i => rg 65 90 i || rg 97 122 i, true) else
  if l == [100, 105, 103, 105, 116] then (rg 48 57, true) else
  if l == [97, 108, 110, 117, 109] then (fun i => (rg 65 90 i || rg 97 122 i) || rg 48 57 i, true) else
  if l == [120, 100, 105, 103, 105, 116] then (fun i => rg 48 57 i || (rg 65 70 i || rg 97 102 i), true) else
  if l == [98, 108, 97, 110, 107] then (inS ⟨#[9, 32]⟩ 2, true) else
  if l == [115, 112, 97, 99, 101] then (fun i => rg 9 13 i || inS ⟨#[32]⟩ 1 i, true) else
  if l == [99, 110, 116, 114, 108] then (fun i => rg 0 31 i || rg 127 127 i, true) else
  if l == [103, 114, 97, 112, 104] then (rg 33 126, true) else
  if l == [112, 114, 105, 110, 116] then (rg 32 126, true) else
  if l == [112, 117, 110, 99, 116] then (fun i => rg 33 126 i && !((rg 65 90 i || rg 97 122 i) || rg 48 57 i), true) else
  (fun _ => false, false)

end Go.Proofs.YthbldjiibgnfmaaGreatDoor

namespace Go.Proofs.YthbldjiibgnfmaaGreatDoor
open Go.RowKit
set_option linter.unusedVariables false
set_option linter.unusedSimpArgs false

theorem hu' : RangeTo 65 90 (rg 65 90) := rangeTo 65 90 (by omega) (by omega)
theorem hl' : RangeTo 97 122 (rg 97 122) := rangeTo 97 122 (by omega) (by omega)
theorem hd' : RangeTo 48 57 (rg 48 57) := rangeTo 48 57 (by omega) (by omega)
theorem hg' : RangeTo 33 126 (rg 33 126) := rangeTo 33 126 (by omega) (by omega)

theorem class_all (x : ByteArray) (w : World) :
    Calls Tryz.prog 137 #[.string x] w fun e w' => e = .returned (.tuple #[sv (clsV x.data.toList).1, .bool (clsV x.data.toList).2]) ∧ Below w.heap.size w w' := by
  by_cases h0 : (x.toList == ([117, 112, 112, 101, 114] : List UInt8)) = true
  · obtain rfl := name_of h0
    have := class_upper _ _ _ _ hu' hl' hd' hg' w
    exact this.mono fun e w' ⟨he, hB⟩ => ⟨he.trans (congrArg (fun s => Ending.returned (.tuple #[s, .bool true])) (sv_congr (fun i hi => rfl))), hB⟩
  replace h0 : (x.toList == ([117, 112, 112, 101, 114] : List UInt8)) = false := by simpa using h0
  by_cases h1 : (x.toList == ([108, 111, 119, 101, 114] : List UInt8)) = true
  · obtain rfl := name_of h1
    have := class_lower _ _ _ _ hu' hl' hd' hg' w
    exact this.mono fun e w' ⟨he, hB⟩ => ⟨he.trans (congrArg (fun s => Ending.returned (.tuple #[s, .bool true])) (sv_congr (fun i hi => rfl))), hB⟩
  replace h1 : (x.toList == ([108, 111, 119, 101, 114] : List UInt8)) = false := by simpa using h1
  by_cases h2 : (x.toList == ([97, 108, 112, 104, 97] : List UInt8)) = true
  · obtain rfl := name_of h2
    have := class_alpha _ _ _ _ hu' hl' hd' hg' w
    exact this.mono fun e w' ⟨he, hB⟩ => ⟨he.trans (congrArg (fun s => Ending.returned (.tuple #[s, .bool true])) (sv_congr (fun i hi => rfl))), hB⟩
  replace h2 : (x.toList == ([97, 108, 112, 104, 97] : List UInt8)) = false := by simpa using h2
  by_cases h3 : (x.toList == ([100, 105, 103, 105, 116] : List UInt8)) = true
  · obtain rfl := name_of h3
    have := class_digit _ _ _ _ hu' hl' hd' hg' w
    exact this.mono fun e w' ⟨he, hB⟩ => ⟨he.trans (congrArg (fun s => Ending.returned (.tuple #[s, .bool true])) (sv_congr (fun i hi => rfl))), hB⟩
  replace h3 : (x.toList == ([100, 105, 103, 105, 116] : List UInt8)) = false := by simpa using h3
  by_cases h4 : (x.toList == ([97, 108, 110, 117, 109] : List UInt8)) = true
  · obtain rfl := name_of h4
    have := class_alnum _ _ _ _ hu' hl' hd' hg' w
    exact this.mono fun e w' ⟨he, hB⟩ => ⟨he.trans (congrArg (fun s => Ending.returned (.tuple #[s, .bool true])) (sv_congr (fun i hi => rfl))), hB⟩
  replace h4 : (x.toList == ([97, 108, 110, 117, 109] : List UInt8)) = false := by simpa using h4
  by_cases h5 : (x.toList == ([120, 100, 105, 103, 105, 116] : List UInt8)) = true
  · obtain rfl := name_of h5
    have := class_xdigit _ _ _ _ hu' hl' hd' hg' _ _ (rangeTo 65 70 (by omega) (by omega)) (rangeTo 97 102 (by omega) (by omega)) w
    exact this.mono fun e w' ⟨he, hB⟩ => ⟨he.trans (congrArg (fun s => Ending.returned (.tuple #[s, .bool true])) (sv_congr (fun i hi => Bool.or_assoc _ _ _))), hB⟩
  replace h5 : (x.toList == ([120, 100, 105, 103, 105, 116] : List UInt8)) = false := by simpa using h5
  by_cases h6 : (x.toList == ([98, 108, 97, 110, 107] : List UInt8)) = true
  · obtain rfl := name_of h6
    have := class_blank _ _ _ _ hu' hl' hd' hg' _ (Lib.hid (ofTo ⟨#[9, 32]⟩ (by decide))) w
    exact this.mono fun e w' ⟨he, hB⟩ => ⟨he.trans (congrArg (fun s => Ending.returned (.tuple #[s, .bool true])) (sv_congr (fun i hi => rfl))), hB⟩
  replace h6 : (x.toList == ([98, 108, 97, 110, 107] : List UInt8)) = false := by simpa using h6
  by_cases h7 : (x.toList == ([115, 112, 97, 99, 101] : List UInt8)) = true
  · obtain rfl := name_of h7
    have := class_space _ _ _ _ hu' hl' hd' hg' _ _ (rangeTo 9 13 (by omega) (by omega)) (ofTo ⟨#[32]⟩ (by decide)) w
    exact this.mono fun e w' ⟨he, hB⟩ => ⟨he.trans (congrArg (fun s => Ending.returned (.tuple #[s, .bool true])) (sv_congr (fun i hi => rfl))), hB⟩
  replace h7 : (x.toList == ([115, 112, 97, 99, 101] : List UInt8)) = false := by simpa using h7
  by_cases h8 : (x.toList == ([99, 110, 116, 114, 108] : List UInt8)) = true
  · obtain rfl := name_of h8
    have := class_cntrl _ _ _ _ hu' hl' hd' hg' _ _ (rangeTo 0 31 (by omega) (by omega)) (rangeTo 127 127 (by omega) (by omega)) w
    exact this.mono fun e w' ⟨he, hB⟩ => ⟨he.trans (congrArg (fun s => Ending.returned (.tuple #[s, .bool true])) (sv_congr (fun i hi => rfl))), hB⟩
  replace h8 : (x.toList == ([99, 110, 116, 114, 108] : List UInt8)) = false := by simpa using h8
  by_cases h9 : (x.toList == ([103, 114, 97, 112, 104] : List UInt8)) = true
  · obtain rfl := name_of h9
    have := class_graph _ _ _ _ hu' hl' hd' hg' w
    exact this.mono fun e w' ⟨he, hB⟩ => ⟨he.trans (congrArg (fun s => Ending.returned (.tuple #[s, .bool true])) (sv_congr (fun i hi => rfl))), hB⟩
  replace h9 : (x.toList == ([103, 114, 97, 112, 104] : List UInt8)) = false := by simpa using h9
  by_cases h10 : (x.toList == ([112, 114, 105, 110, 116] : List UInt8)) = true
  · obtain rfl := name_of h10
    have := class_print _ _ _ _ hu' hl' hd' hg' _ (ofTo ⟨#[32]⟩ (by decide)) w
    exact this.mono fun e w' ⟨he, hB⟩ => ⟨he.trans (congrArg (fun s => Ending.returned (.tuple #[s, .bool true])) (sv_congr (by decide +kernel))), hB⟩
  replace h10 : (x.toList == ([112, 114, 105, 110, 116] : List UInt8)) = false := by simpa using h10
  by_cases h11 : (x.toList == ([112, 117, 110, 99, 116] : List UInt8)) = true
  · obtain rfl := name_of h11
    have := punct_c w
    exact this.mono fun e w' ⟨he, hB⟩ => ⟨he.trans (congrArg (fun s => Ending.returned (.tuple #[s, .bool true])) (sv_congr (by decide +kernel))), hB⟩
  replace h11 : (x.toList == ([112, 117, 110, 99, 116] : List UInt8)) = false := by simpa using h11
  have := class_none _ _ _ _ hu' hl' hd' hg' x h0 h1 h2 h3 h4 h5 h6 h7 h8 h9 h10 h11 w
  rw [ByteArray.toList_eq] at *
  have e : clsV x.data.toList = (fun _ => false, false) := by simp only [clsV, h0, h1, h2, h3, h4, h5, h6, h7, h8, h9, h10, h11]; rfl
  rw [e]
  exact this.mono fun e w' ⟨he, hB⟩ => ⟨by rw [he]; show _ = Ending.returned (.tuple #[sv (fun _ => false), .bool false]); rw [sv_none], hB⟩

end Go.Proofs.YthbldjiibgnfmaaGreatDoor
