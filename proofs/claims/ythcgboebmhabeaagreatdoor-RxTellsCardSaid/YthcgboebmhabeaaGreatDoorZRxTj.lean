/- ofHex. -/
import Derived.Test.YthcgboebmhabeaaGreatDoorZRxTk
import Derived.Test.YthcgboebmhabeaaGreatDoorZRxY
import Derived.Test.YthcgboebmhabeaaGreatDoorZSetE
import Derived.BigQuiet
namespace Go.Proofs.YthcgboebmhabeaaGreatDoor
open Go.RowKit Go.Lib
set_option linter.unusedVariables false
set_option linter.unusedSimpArgs false

def strLen : Value → Nat
  | .string s => s.size
  | _ => 0

theorem strOf_pre (l : List UInt8) : strOfNums (l.map fun c => (c.toNat : Int)) = ⟨l.toArray⟩ := by
  apply ByteArray.ext
  apply Array.ext'
  rw [strOfNums_data, List.map_map]
  have hid : ∀ c : UInt8, UInt8.ofNat ((c.toNat : Int)).toNat = c := fun c => by simp
  simp [Function.comp_def, hid]

theorem indexByte_room (c : UInt8) : ∀ l : List UInt8, Lib.indexByte l c + 1 ≤ l.length
  | [] => by simp [Lib.indexByte]
  | b :: l => by
    have := indexByte_room c l
    unfold Lib.indexByte
    simp only [List.length_cons]
    split
    · omega
    · split <;> omega
theorem indexByte_dle (a : UInt8) : Lib.indexByte digs a ≤ 15 := by
  have := indexByte_room a digs
  have e : digs.length = 16 := rfl
  omega

theorem idx_c (a : UInt8) (w : World) : Calls Tryz.prog 71 #[.string ⟨#[48, 49, 50, 51, 52, 53, 54, 55, 56, 57, 97, 98, 99, 100, 101, 102]⟩, .int .u8 (a.toNat : Int)] w fun e w' => e = .returned (.int .i64 (Lib.indexByte digs a)) ∧ ∃ n, w' = w.drewN n := by
  refine (Tryz.strings_IndexByte ⟨#[48, 49, 50, 51, 52, 53, 54, 55, 56, 57, 97, 98, 99, 100, 101, 102]⟩ (a.toNat : Int) w).mono ?_
  rintro e w' ⟨rfl, rfl⟩
  refine ⟨?_, 0, rfl⟩
  have e1 : ((a.toNat : Int)).toNat.toUInt8 = a := by simp
  rw [e1]
  rfl

set_option maxRecDepth 100000 in
set_option maxHeartbeats 40000000 in
theorem ofhex_c (s : List UInt8) (hs : s.length < 4294967281) (w : World) :
    Calls Tryz.prog 62 #[.string ⟨s.toArray⟩] w fun e w' => e = .returned (.string ⟨(unhex s).toArray⟩) ∧ Below w.heap.size w w' := by
  obtain ⟨i0, hi, hz0, hz1, hz2⟩ := info_parts infoU8
  go_enter Tryz.func62, Tryz.ntmps62
  go_wp2
  go_loopw [0, 3] (fun sv v wr => ∃ (pre rest : List UInt8) (v' : Value), v = v' ∧ sv = .string ⟨rest.toArray⟩ ∧ unhex s = pre ++ unhex rest ∧ 2 * pre.length + rest.length ≤ s.length ∧ wr.ownsRow w.heap.size 5 1 v' pre.length ((pre.map fun c => (c.toNat : Int)).map (Value.int .u8)) ∧ Below w.heap.size w wr) (fun sv _ _ => strLen sv)
  case atStart => exact ⟨[], s, _, rfl, rfl, rfl, by simp, World.ownsRow_nil _ _ _ _, Below.refl _ _⟩
  case round =>
    obtain ⟨pre, rest, v, rfl, rfl, hu, hl, hown, hB⟩ := hrel
    obtain _ | ⟨a, _ | ⟨b, t⟩⟩ := rest
    ·
      have hcv := convert_own hown
      rw [strOf_pre] at hcv
      have hpre : unhex s = pre := by rw [hu]; simp [unhex]
      go_wp2
      go_ret
      exact ⟨by rw [hpre]; rfl, hB⟩
    ·
      have hcv := convert_own hown
      rw [strOf_pre] at hcv
      have hpre : unhex s = pre := by rw [hu]; simp [unhex]
      go_wp2
      go_ret
      exact ⟨by rw [hpre]; rfl, hB⟩
    ·
      have hna : ∀ w, (Instr.index 9 (.string ⟨(a :: b :: t).toArray⟩) (.int .i64 0)).run Tryz.prog w = .ok (.int .u8 (a.toNat : Int)) w := fun w => by
        rw [run_index_string (P := Tryz.prog) w 9 _ .i64 0 Tryz.underlying9, dif_pos ⟨by omega, by simp [ByteArray.size]; try omega⟩]
        rfl
      have hnb : ∀ w, (Instr.index 9 (.string ⟨(a :: b :: t).toArray⟩) (.int .i64 1)).run Tryz.prog w = .ok (.int .u8 (b.toNat : Int)) w := fun w => by
        rw [run_index_string (P := Tryz.prog) w 9 _ .i64 1 Tryz.underlying9, dif_pos ⟨by omega, by simp [ByteArray.size]; try omega⟩]
        rfl
      have HA := Lib.hid fun w => idx_c a w
      have HB := Lib.hid fun w => idx_c b w
      go_wp2_with fail
      go_quiet (first | refine Calls.quiet_of (HA.out _) | refine Calls.quiet_of (HB.out _))
      clear HA HB hna hnb
      by_cases hia : 0 ≤ Lib.indexByte digs a
      · by_cases hib : 0 ≤ Lib.indexByte digs b
        · have hun : unhex s = pre ++ UInt8.ofNat ((Lib.indexByte digs a).toNat * 16 + (Lib.indexByte digs b).toNat) :: unhex t := by rw [hu, unhex, if_pos ⟨hia, hib⟩]
          obtain ⟨p, hp⟩ : ∃ p : Nat, Lib.indexByte digs a = p := ⟨_, (Int.toNat_of_nonneg hia).symm⟩
          obtain ⟨q, hq⟩ : ∃ q : Nat, Lib.indexByte digs b = q := ⟨_, (Int.toNat_of_nonneg hib).symm⟩
          have hp9 := indexByte_dle a
          have hq9 := indexByte_dle b
          rw [hp] at hun hp9 ⊢
          rw [hq] at hun hq9 ⊢
          have hw1 : IntKind.i64.wrap ((p : Int) * 16) = (p : Int) * 16 := by simp [IntKind.wrap, IntKind.signed, IntKind.bits]; omega
          have hw2 : IntKind.i64.wrap ((p : Int) * 16 + q) = (p : Int) * 16 + q := by simp [IntKind.wrap, IntKind.signed, IntKind.bits]; omega
          have hw3 : IntKind.u8.wrap ((p : Int) * 16 + q) = (p : Int) * 16 + q := by simp [IntKind.wrap, IntKind.signed, IntKind.bits]; omega
          have hn1 : ((p : Int) < 0) = False := by simp
          have hn2 : ((q : Int) < 0) = False := by simp
          have hq1 : (wr.drewN nq).ownsRow w.heap.size 5 1 u3 pre.length ((pre.map fun c => (c.toNat : Int)).map (Value.int .u8)) := hown
          have hsz := hB.size
          simp only [List.length_cons] at hl
          have hBq : Below w.heap.size w (wr.drewN nq) := below_drewN hB _
          go_wp2_with (at_builtin; refine wpList_append_own _ rfl _ _ 53 rfl w.heap.size 5 i0 (.int .u8 0) 1 1 Tryz.underlying53 hi hz0 hz1 hz2 rfl (by decide) _ _ _ rfl (hq1.alloc _) ⟨wr.heap.size, 0, none⟩ 1 1 [.int .u8 ((p : Int) * 16 + q)] rfl rfl (cell_one_new _ _ _) (by simp [Value.oneCell']) (by unfold maxLen; omega) (by omega) (by simp; omega) ?_)
          intro v' w1 hown1 hgrow1 hnil1
          have hB1 : Below w.heap.size w w1 := (hBq.alloc (by simp; omega) _).grown hgrow1 (by simp; omega) (fun k hk => own_ge hq1 hk)
          have hext : (⟨(a :: b :: t).toArray⟩ : ByteArray).extract 2 (t.length + 1 + 1) = ⟨t.toArray⟩ := by
            apply ByteArray.ext
            apply Array.ext'
            simp [ByteArray.data_extract]
          have hxn : (UInt8.ofNat ((p : Int).toNat * 16 + (q : Int).toNat)).toNat = p * 16 + q := by
            simp
            omega
          go_wp2
          go_roundw
          case rel =>
            refine ⟨pre ++ [UInt8.ofNat ((p : Int).toNat * 16 + (q : Int).toNat)], t, _, rfl, rfl, by rw [hun]; simp, by simp; omega, ?_, hB1⟩
            rw [List.map_append, List.map_append, List.length_append]
            simp only [List.map_cons, List.map_nil, hxn]
            simpa [Function.comp_def] using hown1
          case measure =>
            simp [strLen, ByteArray.size]
            try omega
        · have hpre : unhex s = pre := by rw [hu, unhex, if_neg (fun h => hib h.2), List.append_nil]
          have hu0 := hu
          clear hu
          have hcv := convert_own (show World.ownsRow (wr.drewN nq) w.heap.size 5 1 _ _ _ from hown)
          rw [strOf_pre] at hcv
          have hn1 : (Lib.indexByte digs a < 0) = False := by simp; omega
          have hn2 : (Lib.indexByte digs b < 0) = True := by simp; omega
          go_wp2
          go_ret
          exact ⟨by first | rfl | (rw [hpre]; rfl) | (rw [← hu0, hpre]; rfl), below_drewN hB _⟩
      · have hpre : unhex s = pre := by rw [hu, unhex, if_neg (fun h => hia h.1), List.append_nil]
        have hu0 := hu
        clear hu
        have hcv := convert_own (show World.ownsRow (wr.drewN nq) w.heap.size 5 1 _ _ _ from hown)
        rw [strOf_pre] at hcv
        have hn1 : (Lib.indexByte digs a < 0) = True := by simp; omega
        go_wp2
        go_ret
        exact ⟨by first | rfl | (rw [hpre]; rfl) | (rw [← hu0, hpre]; rfl), below_drewN hB _⟩

end Go.Proofs.YthcgboebmhabeaaGreatDoor
