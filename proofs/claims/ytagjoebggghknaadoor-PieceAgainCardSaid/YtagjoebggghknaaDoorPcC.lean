/- piece: its small functions, and what its closures answer. -/
import Derived.Test.YtagjoebggghknaaDoorRows
import Derived.Test.YtagjoebggghknaaDoorPcB
import Derived.WalkKit
import Derived.WalkLawsBesides
import Derived.OwnWalk
import Derived.BigQuiet
import Derived.Deep.QuietTactic
import Derived.Lib.Hide
import Derived.Lib.ConvBytes
import Derived.Laws.BytesArg
import Derived.Laws.IdiomStrings
import Derived.IntWalk
import Derived.Laws.DeepStrings4
namespace Go.Proofs.YtagjoebggghknaaDoor
open Go.RowKit
set_option linter.unusedVariables false
set_option linter.unusedSimpArgs false

theorem heap_new (w : World) (o : Obj) : (w.alloc o).heap[w.heap.size]? = some o := by show (w.heap.push _)[w.heap.size]? = _; simp
theorem cell_of (w : World) (b : Nat) (vs : Array Value) (t : TypeId) {f : Nat × Nat} (h : w.heap[b]? = some (.cells vs t f)) (j : Nat) : w.cell? ⟨b, j, none⟩ = vs[j]? := by simp [World.cell?, h]
theorem cell_keep {w w' : World} {b j : Nat} {v : Value} (hB : Below w.heap.size w w') (h : w.cell? ⟨b, j, none⟩ = some v) : w'.cell? ⟨b, j, none⟩ = some v := (hB.cell (p := ⟨b, j, none⟩) (World.block_lt_of_cell? _ _ h)).trans h
theorem u8eq {c : UInt8} {n : Nat} (hn : n < 256) : ((c.toNat : Int) == (n : Int)) = decide (c = UInt8.ofNat n) := by
  rw [Bool.eq_iff_iff]
  simp only [beq_iff_eq, decide_eq_true_iff]
  constructor
  · intro h
    apply UInt8.toNat_inj.1
    rw [UInt8.toNat_ofNat']; omega
  · intro h
    rw [h, UInt8.toNat_ofNat']; omega
theorem u8ne {c : UInt8} {n : Nat} (hn : n < 256) : ((c.toNat : Int) != (n : Int)) = !decide (c = UInt8.ofNat n) := by rw [bne, u8eq hn]
theorem u8d (c d : UInt8) : ((c.toNat : Int) == (d.toNat : Int)) = decide (c = d) := by
  rw [Bool.eq_iff_iff]
  simp only [beq_iff_eq, decide_eq_true_iff]
  exact ⟨fun h => UInt8.toNat_inj.1 (by omega), fun h => by rw [h]⟩
theorem u8dn (c d : UInt8) : ((c.toNat : Int) != (d.toNat : Int)) = !decide (c = d) := by rw [bne, u8d]
theorem ba_get? (s : ByteArray) (l : List UInt8) (h : s.data.toList = l) (k : Nat) (c : UInt8) (hk : k < s.size) (hc : l[k]? = some c) : s[k] = c := by
  have h1 : l[k]? = s.data.toList[k]? := by rw [h]
  rw [hc, List.getElem?_eq_getElem (by simpa using hk)] at h1
  exact (Option.some.inj h1).symm
theorem ba_app (a b : List UInt8) : (⟨a.toArray⟩ : ByteArray) ++ ⟨b.toArray⟩ = ⟨(a ++ b).toArray⟩ := by
  apply ByteArray.ext
  apply Array.ext'
  simp
theorem ba_size (a : List UInt8) : (⟨a.toArray⟩ : ByteArray).size = a.length := by simp [ByteArray.size]
theorem ba_mk (s : ByteArray) : s = ⟨s.data.toList.toArray⟩ := by apply ByteArray.ext; simp
theorem drop_one (l : List UInt8) (k : Nat) (c : UInt8) (h : l[k]? = some c) : l.drop k = c :: l.drop (k + 1) := by
  obtain ⟨hk, e⟩ := List.getElem?_eq_some_iff.1 h
  rw [List.drop_eq_getElem_cons hk, e]
theorem slice_from (S : ByteArray) (k : Nat) (hk : k ≤ S.size) (T : ByteArray) (hT : T.data.toList = S.data.toList.drop k) (W : World) :
    (Instr.slice 9 (.string S) (some (.int .i64 (k : Int))) none none).run Tryd.prog W = .ok (.string T) W := by
  have e : S.extract (k : Int).toNat S.size = T := by
    apply ByteArray.ext
    apply Array.ext'
    rw [hT]
    simp only [ByteArray.data_extract, Array.toList_extract, Int.toNat_natCast, List.extract_eq_take_drop]
    rw [List.take_of_length_le (by simp)]
  rw [run_slice_string_from_if (P := Tryd.prog) W 9 _ .i64 (k : Int) Tryd.underlying9, if_pos ⟨by omega, by omega⟩, e]
theorem slice_to (S : ByteArray) (k : Nat) (hk : k ≤ S.size) (T : ByteArray) (hT : T.data.toList = S.data.toList.take k) (W : World) :
    (Instr.slice 9 (.string S) none (some (.int .i64 (k : Int))) none).run Tryd.prog W = .ok (.string T) W := by
  have e : S.extract 0 (k : Int).toNat = T := by
    apply ByteArray.ext
    apply Array.ext'
    rw [hT]
    simp only [ByteArray.data_extract, Array.toList_extract, Int.toNat_natCast, List.extract_eq_take_drop]
    simp
  rw [run_slice_string_to_if (P := Tryd.prog) W 9 _ .i64 (k : Int) Tryd.underlying9, if_pos ⟨by omega, by omega⟩, e]
theorem slice_mid (S : ByteArray) (i j : Nat) (hij : i ≤ j) (hj : j ≤ S.size) (T : ByteArray) (hT : T.data.toList = (S.data.toList.drop i).take (j - i)) (W : World) :
    (Instr.slice 9 (.string S) (some (.int .i64 (i : Int))) (some (.int .i64 (j : Int))) none).run Tryd.prog W = .ok (.string T) W := by
  have e : S.extract (i : Int).toNat (j : Int).toNat = T := by
    apply ByteArray.ext
    apply Array.ext'
    rw [hT]
    simp only [ByteArray.data_extract, Array.toList_extract, Int.toNat_natCast, List.extract_eq_take_drop]
  rw [run_slice_string_if (P := Tryd.prog) W 9 _ .i64 .i64 (i : Int) (j : Int) Tryd.underlying9, if_pos ⟨by omega, by omega⟩, if_pos ⟨by omega, by omega⟩, e]

/-- A place of a text: 0 to its length, or its length. -/
def plc (n : Nat) (at_ : Int) : Nat := if at_ < 0 ∨ (n : Int) < at_ then n else at_.toNat
theorem plc_le (n : Nat) (a : Int) : plc n a ≤ n := by unfold plc; split <;> omega
theorem plc_self (n k : Nat) (h : k ≤ n) : plc n k = k := by unfold plc; rw [if_neg (by omega)]; omega

set_option maxRecDepth 100000 in
set_option maxHeartbeats 4000000 in
theorem place_c (S : ByteArray) (a : Int) (w : World) :
    Calls Tryd.prog 24 #[.string S, .int .i64 a] w fun e w' => e = .returned (.int .i64 (plc S.size a)) ∧ w' = w := by
  by_cases h1 : a < 0
  · have e : plc S.size a = S.size := by unfold plc; rw [if_pos (.inl h1)]
    have HE := Lib.hid e
    clear e
    go_enter Tryd.func24, Tryd.ntmps24
    go_wp2
    go_ret
    exact ⟨by rw [HE.out]; rfl, rfl⟩
  · by_cases h2 : (S.size : Int) < a
    · have e : plc S.size a = S.size := by unfold plc; rw [if_pos (.inr h2)]
      have HE := Lib.hid e
      clear e
      go_enter Tryd.func24, Tryd.ntmps24
      go_wp2
      go_ret
      exact ⟨by rw [HE.out]; rfl, rfl⟩
    · have e : (plc S.size a : Int) = a := by unfold plc; rw [if_neg (by omega)]; omega
      have HE := Lib.hid e
      clear e
      go_enter Tryd.func24, Tryd.ntmps24
      go_wp2
      go_ret
      exact ⟨by rw [HE.out]; rfl, rfl⟩

set_option maxRecDepth 100000 in
set_option maxHeartbeats 4000000 in
theorem rfrom_c (S : ByteArray) (a : Int) (w : World) :
    Calls Tryd.prog 30 #[.string S, .int .i64 a] w fun e w' => e = .returned (.int .i64 (plc S.size a)) ∧ w' = w := by
  by_cases h1 : a < 0
  · have e : plc S.size a = S.size := by unfold plc; rw [if_pos (.inl h1)]
    have HE := Lib.hid e
    clear e
    go_enter Tryd.func30, Tryd.ntmps30
    go_wp2
    go_ret
    exact ⟨by rw [HE.out]; rfl, rfl⟩
  · by_cases h2 : (S.size : Int) < a
    · have e : plc S.size a = S.size := by unfold plc; rw [if_pos (.inr h2)]
      have HE := Lib.hid e
      clear e
      go_enter Tryd.func30, Tryd.ntmps30
      go_wp2
      go_ret
      exact ⟨by rw [HE.out]; rfl, rfl⟩
    · have e : (plc S.size a : Int) = a := by unfold plc; rw [if_neg (by omega)]; omega
      have HE := Lib.hid e
      clear e
      go_enter Tryd.func30, Tryd.ntmps30
      go_wp2
      go_ret
      exact ⟨by rw [HE.out]; rfl, rfl⟩

set_option maxRecDepth 100000 in
set_option maxHeartbeats 4000000 in
theorem blank_c (c : UInt8) (w : World) :
    Calls Tryd.prog 37 #[.int .u8 c.toNat] w fun e w' => e = .returned (.bool (isBl c)) ∧ w' = w := by
  have e : isBl c = (decide (c = UInt8.ofNat 32) || decide (c = UInt8.ofNat 9)) := by
    unfold isBl
    rfl
  have HE := Lib.hid e
  clear e
  by_cases h1 : c = UInt8.ofNat 32
  · have q1 : ((c.toNat : Int) == 32) = true := (u8eq (c := c) (n := 32) (by omega)).trans (decide_eq_true h1)
    have n1 : ((c.toNat : Int) != 32) = false := by rw [bne, q1]; rfl
    have p1 : (c.toNat : Int) = 32 := by simpa using q1
    have HX1 := Lib.hid (decide_eq_true h1)
    clear h1
    by_cases h2 : c = UInt8.ofNat 9
    · have q2 : ((c.toNat : Int) == 9) = true := (u8eq (c := c) (n := 9) (by omega)).trans (decide_eq_true h2)
      have n2 : ((c.toNat : Int) != 9) = false := by rw [bne, q2]; rfl
      have p2 : (c.toNat : Int) = 9 := by simpa using q2
      have HX2 := Lib.hid (decide_eq_true h2)
      clear h2
      go_enter Tryd.func37, Tryd.ntmps37
      go_wp2
      go_ret
      exact ⟨by rw [HE.out, HX1.out, HX2.out]; rfl, rfl⟩
    · have q2 : ((c.toNat : Int) == 9) = false := (u8eq (c := c) (n := 9) (by omega)).trans (decide_eq_false h2)
      have n2 : ((c.toNat : Int) != 9) = true := by rw [bne, q2]; rfl
      have p2 : ¬ (c.toNat : Int) = 9 := by simpa using q2
      have HX2 := Lib.hid (decide_eq_false h2)
      clear h2
      go_enter Tryd.func37, Tryd.ntmps37
      go_wp2
      go_ret
      exact ⟨by rw [HE.out, HX1.out, HX2.out]; rfl, rfl⟩
  · have q1 : ((c.toNat : Int) == 32) = false := (u8eq (c := c) (n := 32) (by omega)).trans (decide_eq_false h1)
    have n1 : ((c.toNat : Int) != 32) = true := by rw [bne, q1]; rfl
    have p1 : ¬ (c.toNat : Int) = 32 := by simpa using q1
    have HX1 := Lib.hid (decide_eq_false h1)
    clear h1
    by_cases h2 : c = UInt8.ofNat 9
    · have q2 : ((c.toNat : Int) == 9) = true := (u8eq (c := c) (n := 9) (by omega)).trans (decide_eq_true h2)
      have n2 : ((c.toNat : Int) != 9) = false := by rw [bne, q2]; rfl
      have p2 : (c.toNat : Int) = 9 := by simpa using q2
      have HX2 := Lib.hid (decide_eq_true h2)
      clear h2
      go_enter Tryd.func37, Tryd.ntmps37
      go_wp2
      go_ret
      exact ⟨by rw [HE.out, HX1.out, HX2.out]; rfl, rfl⟩
    · have q2 : ((c.toNat : Int) == 9) = false := (u8eq (c := c) (n := 9) (by omega)).trans (decide_eq_false h2)
      have n2 : ((c.toNat : Int) != 9) = true := by rw [bne, q2]; rfl
      have p2 : ¬ (c.toNat : Int) = 9 := by simpa using q2
      have HX2 := Lib.hid (decide_eq_false h2)
      clear h2
      go_enter Tryd.func37, Tryd.ntmps37
      go_wp2
      go_ret
      exact ⟨by rw [HE.out, HX1.out, HX2.out]; rfl, rfl⟩

set_option maxRecDepth 100000 in
set_option maxHeartbeats 4000000 in
theorem rblank_c (c : UInt8) (w : World) :
    Calls Tryd.prog 39 #[.int .u8 c.toNat] w fun e w' => e = .returned (.bool (isBl c)) ∧ w' = w := by
  have e : isBl c = (decide (c = UInt8.ofNat 32) || decide (c = UInt8.ofNat 9)) := by
    unfold isBl
    rfl
  have HE := Lib.hid e
  clear e
  by_cases h1 : c = UInt8.ofNat 32
  · have q1 : ((c.toNat : Int) == 32) = true := (u8eq (c := c) (n := 32) (by omega)).trans (decide_eq_true h1)
    have n1 : ((c.toNat : Int) != 32) = false := by rw [bne, q1]; rfl
    have p1 : (c.toNat : Int) = 32 := by simpa using q1
    have HX1 := Lib.hid (decide_eq_true h1)
    clear h1
    by_cases h2 : c = UInt8.ofNat 9
    · have q2 : ((c.toNat : Int) == 9) = true := (u8eq (c := c) (n := 9) (by omega)).trans (decide_eq_true h2)
      have n2 : ((c.toNat : Int) != 9) = false := by rw [bne, q2]; rfl
      have p2 : (c.toNat : Int) = 9 := by simpa using q2
      have HX2 := Lib.hid (decide_eq_true h2)
      clear h2
      go_enter Tryd.func39, Tryd.ntmps39
      go_wp2
      go_ret
      exact ⟨by rw [HE.out, HX1.out, HX2.out]; rfl, rfl⟩
    · have q2 : ((c.toNat : Int) == 9) = false := (u8eq (c := c) (n := 9) (by omega)).trans (decide_eq_false h2)
      have n2 : ((c.toNat : Int) != 9) = true := by rw [bne, q2]; rfl
      have p2 : ¬ (c.toNat : Int) = 9 := by simpa using q2
      have HX2 := Lib.hid (decide_eq_false h2)
      clear h2
      go_enter Tryd.func39, Tryd.ntmps39
      go_wp2
      go_ret
      exact ⟨by rw [HE.out, HX1.out, HX2.out]; rfl, rfl⟩
  · have q1 : ((c.toNat : Int) == 32) = false := (u8eq (c := c) (n := 32) (by omega)).trans (decide_eq_false h1)
    have n1 : ((c.toNat : Int) != 32) = true := by rw [bne, q1]; rfl
    have p1 : ¬ (c.toNat : Int) = 32 := by simpa using q1
    have HX1 := Lib.hid (decide_eq_false h1)
    clear h1
    by_cases h2 : c = UInt8.ofNat 9
    · have q2 : ((c.toNat : Int) == 9) = true := (u8eq (c := c) (n := 9) (by omega)).trans (decide_eq_true h2)
      have n2 : ((c.toNat : Int) != 9) = false := by rw [bne, q2]; rfl
      have p2 : (c.toNat : Int) = 9 := by simpa using q2
      have HX2 := Lib.hid (decide_eq_true h2)
      clear h2
      go_enter Tryd.func39, Tryd.ntmps39
      go_wp2
      go_ret
      exact ⟨by rw [HE.out, HX1.out, HX2.out]; rfl, rfl⟩
    · have q2 : ((c.toNat : Int) == 9) = false := (u8eq (c := c) (n := 9) (by omega)).trans (decide_eq_false h2)
      have n2 : ((c.toNat : Int) != 9) = true := by rw [bne, q2]; rfl
      have p2 : ¬ (c.toNat : Int) = 9 := by simpa using q2
      have HX2 := Lib.hid (decide_eq_false h2)
      clear h2
      go_enter Tryd.func39, Tryd.ntmps39
      go_wp2
      go_ret
      exact ⟨by rw [HE.out, HX1.out, HX2.out]; rfl, rfl⟩

theorem isDgt_of (c : UInt8) : isDgt c = (decide ((48 : Int) ≤ (c.toNat : Int)) && decide ((c.toNat : Int) ≤ 57)) := by
  unfold isDgt
  congr 1 <;> (apply decide_eq_decide.2; omega)
set_option maxRecDepth 100000 in
set_option maxHeartbeats 4000000 in
theorem digit_c (c : UInt8) (w : World) :
    Calls Tryd.prog 33 #[.int .u8 c.toNat] w fun e w' => e = .returned (.bool (isDgt c)) ∧ w' = w := by
  have e := isDgt_of c
  by_cases h1 : (48 : Int) ≤ (c.toNat : Int)
  · by_cases h2 : (c.toNat : Int) ≤ 57
    · rw [decide_eq_true h1, decide_eq_true h2] at e
      have HE := Lib.hid e
      clear e
      go_enter Tryd.func33, Tryd.ntmps33
      go_wp2
      go_ret
      exact ⟨by rw [HE.out]; rfl, rfl⟩
    · rw [decide_eq_true h1, decide_eq_false h2] at e
      have HE := Lib.hid e
      clear e
      go_enter Tryd.func33, Tryd.ntmps33
      go_wp2
      go_ret
      exact ⟨by rw [HE.out]; rfl, rfl⟩
  · rw [decide_eq_false h1] at e
    have HE := Lib.hid e
    clear e
    go_enter Tryd.func33, Tryd.ntmps33
    go_wp2
    go_ret
    exact ⟨by rw [HE.out]; rfl, rfl⟩
/-- Whether d may end what is taken. -/
def mayD (d : UInt8) : Bool := decide (d ≠ 92) && decide (d ≠ 10)
set_option maxRecDepth 100000 in
set_option maxHeartbeats 4000000 in
theorem mayend_c (c : UInt8) (w : World) :
    Calls Tryd.prog 29 #[.int .u8 c.toNat] w fun e w' => e = .returned (.bool (mayD c)) ∧ w' = w := by
  have e : mayD c = (!decide (c = UInt8.ofNat 92) && !decide (c = UInt8.ofNat 10)) := by
    unfold mayD
    simp
  have HE := Lib.hid e
  clear e
  by_cases h1 : c = UInt8.ofNat 92
  · have q1 : ((c.toNat : Int) == 92) = true := (u8eq (c := c) (n := 92) (by omega)).trans (decide_eq_true h1)
    have n1 : ((c.toNat : Int) != 92) = false := by rw [bne, q1]; rfl
    have p1 : (c.toNat : Int) = 92 := by simpa using q1
    have HX1 := Lib.hid (decide_eq_true h1)
    clear h1
    by_cases h2 : c = UInt8.ofNat 10
    · have q2 : ((c.toNat : Int) == 10) = true := (u8eq (c := c) (n := 10) (by omega)).trans (decide_eq_true h2)
      have n2 : ((c.toNat : Int) != 10) = false := by rw [bne, q2]; rfl
      have p2 : (c.toNat : Int) = 10 := by simpa using q2
      have HX2 := Lib.hid (decide_eq_true h2)
      clear h2
      go_enter Tryd.func29, Tryd.ntmps29
      go_wp2
      go_ret
      exact ⟨by rw [HE.out, HX1.out, HX2.out]; rfl, rfl⟩
    · have q2 : ((c.toNat : Int) == 10) = false := (u8eq (c := c) (n := 10) (by omega)).trans (decide_eq_false h2)
      have n2 : ((c.toNat : Int) != 10) = true := by rw [bne, q2]; rfl
      have p2 : ¬ (c.toNat : Int) = 10 := by simpa using q2
      have HX2 := Lib.hid (decide_eq_false h2)
      clear h2
      go_enter Tryd.func29, Tryd.ntmps29
      go_wp2
      go_ret
      exact ⟨by rw [HE.out, HX1.out, HX2.out]; rfl, rfl⟩
  · have q1 : ((c.toNat : Int) == 92) = false := (u8eq (c := c) (n := 92) (by omega)).trans (decide_eq_false h1)
    have n1 : ((c.toNat : Int) != 92) = true := by rw [bne, q1]; rfl
    have p1 : ¬ (c.toNat : Int) = 92 := by simpa using q1
    have HX1 := Lib.hid (decide_eq_false h1)
    clear h1
    by_cases h2 : c = UInt8.ofNat 10
    · have q2 : ((c.toNat : Int) == 10) = true := (u8eq (c := c) (n := 10) (by omega)).trans (decide_eq_true h2)
      have n2 : ((c.toNat : Int) != 10) = false := by rw [bne, q2]; rfl
      have p2 : (c.toNat : Int) = 10 := by simpa using q2
      have HX2 := Lib.hid (decide_eq_true h2)
      clear h2
      go_enter Tryd.func29, Tryd.ntmps29
      go_wp2
      go_ret
      exact ⟨by rw [HE.out, HX1.out, HX2.out]; rfl, rfl⟩
    · have q2 : ((c.toNat : Int) == 10) = false := (u8eq (c := c) (n := 10) (by omega)).trans (decide_eq_false h2)
      have n2 : ((c.toNat : Int) != 10) = true := by rw [bne, q2]; rfl
      have p2 : ¬ (c.toNat : Int) = 10 := by simpa using q2
      have HX2 := Lib.hid (decide_eq_false h2)
      clear h2
      go_enter Tryd.func29, Tryd.ntmps29
      go_wp2
      go_ret
      exact ⟨by rw [HE.out, HX1.out, HX2.out]; rfl, rfl⟩

/-- string(b) of a row of bytes. -/
theorem textof_c (b n : Nat) (l : List UInt8) (hn : l.length = n) (w : World) (hc : ∀ j (h : j < l.length), w.cell? ⟨b, j, none⟩ = some (.int .u8 l[j].toNat)) (A : ByteArray) (hA : A = ⟨l.toArray⟩) :
    Calls Tryd.prog 27 #[.slice (some ⟨b, 0, none⟩) n n] w fun e w' => e = .returned (.string A) ∧ w' = w := by
  have hbk := run_convert_bytes_back (P := Tryd.prog) w 38 9 5 ⟨b, 0, none⟩ n l Tryd.underlying38 Tryd.underlying5 Tryd.underlying9 (fun j hj => by
    rw [Addr.add_lit, Nat.zero_add]
    exact hc j hj)
  rw [hn, ← hA] at hbk
  clear hA hc
  go_enter Tryd.func27, Tryd.ntmps27
  go_wp2
  go_ret
  exact ⟨rfl, rfl⟩

set_option maxRecDepth 100000 in
set_option maxHeartbeats 4000000 in
theorem end_d (b : Nat) (d c : UInt8) (w : World) (hc : w.cell? ⟨b, 0, none⟩ = some (.int .u8 d.toNat)) :
    Calls Tryd.prog 25 #[.int .u8 c.toNat, .pointer (some ⟨b, 0, none⟩)] w fun e w' => e = .returned (.bool (endD d c)) ∧ Below w.heap.size w w' := by
  have e : endD d c = (decide (c = d) || decide (c = UInt8.ofNat 10)) := rfl
  have HE := Lib.hid e
  clear e
  by_cases h1 : c = d
  · have q1 : ((c.toNat : Int) == (d.toNat : Int)) = true := (u8d c d).trans (decide_eq_true h1)
    have n1 : ((c.toNat : Int) != (d.toNat : Int)) = false := by rw [bne, q1]; rfl
    have p1 : (c.toNat : Int) = (d.toNat : Int) := by simpa using q1
    have HX1 := Lib.hid (decide_eq_true h1)
    clear h1
    by_cases h2 : c = UInt8.ofNat 10
    · have q2 : ((c.toNat : Int) == 10) = true := (u8eq (c := c) (n := 10) (by omega)).trans (decide_eq_true h2)
      have n2 : ((c.toNat : Int) != 10) = false := by rw [bne, q2]; rfl
      have p2 : (c.toNat : Int) = 10 := by simpa using q2
      have HX2 := Lib.hid (decide_eq_true h2)
      clear h2
      go_enter Tryd.func25, Tryd.ntmps25
      go_wp2
      go_ret
      exact ⟨by rw [HE.out, HX1.out, HX2.out]; rfl, Below.refl _ _⟩
    · have q2 : ((c.toNat : Int) == 10) = false := (u8eq (c := c) (n := 10) (by omega)).trans (decide_eq_false h2)
      have n2 : ((c.toNat : Int) != 10) = true := by rw [bne, q2]; rfl
      have p2 : ¬ (c.toNat : Int) = 10 := by simpa using q2
      have HX2 := Lib.hid (decide_eq_false h2)
      clear h2
      go_enter Tryd.func25, Tryd.ntmps25
      go_wp2
      go_ret
      exact ⟨by rw [HE.out, HX1.out, HX2.out]; rfl, Below.refl _ _⟩
  · have q1 : ((c.toNat : Int) == (d.toNat : Int)) = false := (u8d c d).trans (decide_eq_false h1)
    have n1 : ((c.toNat : Int) != (d.toNat : Int)) = true := by rw [bne, q1]; rfl
    have p1 : ¬ (c.toNat : Int) = (d.toNat : Int) := by simpa using q1
    have HX1 := Lib.hid (decide_eq_false h1)
    clear h1
    by_cases h2 : c = UInt8.ofNat 10
    · have q2 : ((c.toNat : Int) == 10) = true := (u8eq (c := c) (n := 10) (by omega)).trans (decide_eq_true h2)
      have n2 : ((c.toNat : Int) != 10) = false := by rw [bne, q2]; rfl
      have p2 : (c.toNat : Int) = 10 := by simpa using q2
      have HX2 := Lib.hid (decide_eq_true h2)
      clear h2
      go_enter Tryd.func25, Tryd.ntmps25
      go_wp2
      go_ret
      exact ⟨by rw [HE.out, HX1.out, HX2.out]; rfl, Below.refl _ _⟩
    · have q2 : ((c.toNat : Int) == 10) = false := (u8eq (c := c) (n := 10) (by omega)).trans (decide_eq_false h2)
      have n2 : ((c.toNat : Int) != 10) = true := by rw [bne, q2]; rfl
      have p2 : ¬ (c.toNat : Int) = 10 := by simpa using q2
      have HX2 := Lib.hid (decide_eq_false h2)
      clear h2
      go_enter Tryd.func25, Tryd.ntmps25
      go_wp2
      go_ret
      exact ⟨by rw [HE.out, HX1.out, HX2.out]; rfl, Below.refl _ _⟩
set_option maxRecDepth 100000 in
set_option maxHeartbeats 4000000 in
theorem end_t (c : UInt8) (w : World) :
    Calls Tryd.prog 40 #[.int .u8 c.toNat] w fun e w' => e = .returned (.bool (endT c)) ∧ Below w.heap.size w w' := by
  have e : endT c = decide (c = UInt8.ofNat 10) := rfl
  have HE := Lib.hid e
  clear e
  by_cases h1 : c = UInt8.ofNat 10
  · have q1 : ((c.toNat : Int) == 10) = true := (u8eq (c := c) (n := 10) (by omega)).trans (decide_eq_true h1)
    have n1 : ((c.toNat : Int) != 10) = false := by rw [bne, q1]; rfl
    have p1 : (c.toNat : Int) = 10 := by simpa using q1
    have HX1 := Lib.hid (decide_eq_true h1)
    clear h1
    go_enter Tryd.func40, Tryd.ntmps40
    go_wp2
    go_ret
    exact ⟨by rw [HE.out, HX1.out]; rfl, Below.refl _ _⟩
  · have q1 : ((c.toNat : Int) == 10) = false := (u8eq (c := c) (n := 10) (by omega)).trans (decide_eq_false h1)
    have n1 : ((c.toNat : Int) != 10) = true := by rw [bne, q1]; rfl
    have p1 : ¬ (c.toNat : Int) = 10 := by simpa using q1
    have HX1 := Lib.hid (decide_eq_false h1)
    clear h1
    go_enter Tryd.func40, Tryd.ntmps40
    go_wp2
    go_ret
    exact ⟨by rw [HE.out, HX1.out]; rfl, Below.refl _ _⟩
theorem one_cell (c : UInt8) (w : World) : ∀ j (h : j < [c].length), (w.alloc (.cells #[.int .u8 c.toNat] 5)).cell? ⟨w.heap.size, j, none⟩ = some (.int .u8 ([c][j]).toNat) := by
  intro j h
  obtain rfl : j = 0 := by simpa using h
  rw [cell_of _ _ _ _ (heap_new _ _)]; rfl
theorem two_cell (a c : UInt8) (w : World) : ∀ j (h : j < [a, c].length), (w.alloc (.cells #[.int .u8 a.toNat, .int .u8 c.toNat] 5)).cell? ⟨w.heap.size, j, none⟩ = some (.int .u8 ([a, c][j]).toNat) := by
  intro j h
  rw [cell_of _ _ _ _ (heap_new _ _)]
  rcases (by simp at h; omega : j = 0 ∨ j = 1) with rfl | rfl <;> rfl
set_option maxRecDepth 100000 in
set_option maxHeartbeats 4000000 in
theorem pair_t (c : UInt8) (w : World) :
    Calls Tryd.prog 41 #[.int .u8 c.toNat] w fun e w' => e = .returned (.string ⟨(pairT c).toArray⟩) ∧ Below w.heap.size w w' := by
  obtain ⟨A, hA⟩ : ∃ A : ByteArray, A = ⟨[c].toArray⟩ := ⟨_, rfl⟩
  have HT := Lib.hid (textof_c w.heap.size 1 [c] rfl (w.alloc (.cells #[.int .u8 c.toNat] 5)) (one_cell c w) A hA)
  have HA := Lib.hid hA
  clear hA
  go_enter Tryd.func41, Tryd.ntmps41
  go_wp2_with fail
  refine HT.out.mono ?_
  rintro e w1 ⟨rfl, rfl⟩
  go_wp2
  go_ret
  exact ⟨by rw [HA.out]; rfl, (Below.refl _ _).alloc (Nat.le_refl _) _⟩
set_option maxRecDepth 100000 in
set_option maxHeartbeats 4000000 in
theorem pair_d (b : Nat) (d c : UInt8) (w : World) (hc : w.cell? ⟨b, 0, none⟩ = some (.int .u8 d.toNat)) :
    Calls Tryd.prog 26 #[.int .u8 c.toNat, .pointer (some ⟨b, 0, none⟩)] w fun e w' => e = .returned (.string ⟨(pairD d c).toArray⟩) ∧ Below w.heap.size w w' := by
  have q1 := u8d c d
  by_cases hx : c = d
  · rw [decide_eq_true hx] at q1
    have e : pairD d c = [c] := by unfold pairD; rw [if_pos hx]
    obtain ⟨A, hA⟩ : ∃ A : ByteArray, A = ⟨[c].toArray⟩ := ⟨_, rfl⟩
    have HT := Lib.hid (textof_c w.heap.size 1 [c] rfl (w.alloc (.cells #[.int .u8 c.toNat] 5)) (one_cell c w) A hA)
    have HA := Lib.hid hA
    have HE := Lib.hid e
    clear hA hx e
    go_enter Tryd.func26, Tryd.ntmps26
    go_wp2_with fail
    refine HT.out.mono ?_
    rintro e w1 ⟨rfl, rfl⟩
    go_wp2
    go_ret
    exact ⟨by rw [HA.out, HE.out]; rfl, (Below.refl _ _).alloc (Nat.le_refl _) _⟩
  · rw [decide_eq_false hx] at q1
    have e : pairD d c = [92, c] := by unfold pairD; rw [if_neg hx]
    obtain ⟨A, hA⟩ : ∃ A : ByteArray, A = ⟨[92, c].toArray⟩ := ⟨_, rfl⟩
    have HT := Lib.hid (textof_c w.heap.size 2 [92, c] rfl (w.alloc (.cells #[.int .u8 92, .int .u8 c.toNat] 5)) (two_cell 92 c w) A hA)
    have HA := Lib.hid hA
    have HE := Lib.hid e
    clear hA hx e
    go_enter Tryd.func26, Tryd.ntmps26
    go_wp2_with fail
    refine HT.out.mono ?_
    rintro e w1 ⟨rfl, rfl⟩
    go_wp2
    go_ret
    exact ⟨by rw [HA.out, HE.out]; rfl, (Below.refl _ _).alloc (Nat.le_refl _) _⟩

-- behind, over any byte's question.
set_option maxRecDepth 100000 in
set_option maxHeartbeats 4000000 in
theorem behind_c (K : FuncId) (cap : Array Value) (f : UInt8 → Bool) (S : ByteArray) (a : Nat) (ha : a ≤ S.size) (hs : S.size ≤ 100000) (w : World) (hen : ∀ args w, (callFunc K args).run Tryd.prog w = .ok (.enter K args) w)
    (hf : ∀ (c : UInt8) (W : World), Below w.heap.size w W → Calls Tryd.prog K (#[.int .u8 c.toNat] ++ cap) W fun e W' => e = .returned (.bool (f c)) ∧ Below W.heap.size W W') :
    Calls Tryd.prog 32 #[.string S, .int .i64 (a : Int), .func (.func K) #[] cap] w fun e w' => e = .returned (.int .i64 ((a + ((S.data.toList.drop a).takeWhile f).length : Nat) : Int)) ∧ Below w.heap.size w w' := by
  obtain ⟨l, hl⟩ : ∃ l, l = S.data.toList := ⟨_, rfl⟩
  have hll : l.length = S.size := by rw [hl]; simp
  rw [← hl]
  have HL := Lib.hid hl
  have HLL := Lib.hid hll
  have HF := Lib.hid hf
  clear hl hll hf
  go_enter Tryd.func32, Tryd.ntmps32
  go_wp2
  go_loopw [1] (fun i wr => ∃ k : Nat, k ≤ S.size ∧ i = .int .i64 k ∧ k + ((l.drop k).takeWhile f).length = a + ((l.drop a).takeWhile f).length ∧ Below w.heap.size w wr) (fun i _ => S.size - (intOf i).toNat)
  case atStart => exact ⟨a, ha, rfl, rfl, Below.refl _ _⟩
  case round =>
    obtain ⟨k, hk, rfl, hr, hB⟩ := hrel
    by_cases hlt : k < S.size
    · obtain ⟨c, hc⟩ : ∃ c, l[k]? = some c := ⟨l[k]'(by have := HLL.out; omega), List.getElem?_eq_getElem _⟩
      have hsk := ba_get? S l HL.out.symm k c hlt hc
      rw [drop_one l k c hc] at hr
      have HR := Lib.hid hr
      have HCC := Lib.hid (HF.out c wr hB)
      clear hr hc
      go_wp2_with fail
      refine HCC.out.mono ?_
      rintro e w1 ⟨rfl, hB1⟩
      have hB2 : Below w.heap.size w w1 := hB.trans (hB1.mono hB.size)
      have hr2 := HR.out
      cases hq : f c
      · rw [List.takeWhile_cons, hq] at hr2
        have HR2 := Lib.hid hr2
        clear hr2
        go_wp2
        go_ret
        exact ⟨by rw [← HR2.out]; rfl, hB2⟩
      · rw [List.takeWhile_cons, hq] at hr2
        have HR2 := Lib.hid hr2
        clear hr2
        go_wp2
        go_roundw
        case rel => exact ⟨k + 1, by omega, by simp, by have := HR2.out; simp only [if_true, List.length_cons] at this; omega, hB2⟩
        case measure => simp [intOf]; omega
    · obtain rfl : k = S.size := by omega
      have hlt1 : ((S.size : Int) < S.size) = False := by simp
      rw [List.drop_eq_nil_of_le (by have := HLL.out; omega)] at hr
      have HR2 := Lib.hid hr
      clear hr
      go_wp2
      go_ret
      exact ⟨by rw [← HR2.out]; rfl, hB⟩

end Go.Proofs.YtagjoebggghknaaDoor
