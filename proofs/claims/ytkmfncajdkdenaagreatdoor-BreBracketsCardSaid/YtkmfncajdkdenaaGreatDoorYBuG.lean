/- The reference's parts of telling a set: in, Special, Size: the walks. -/
import Derived.Test.YtkmfncajdkdenaaGreatDoorYBtBc
import Derived.Test.YtkmfncajdkdenaaGreatDoorYBrKb
import Derived.Test.YtkmfncajdkdenaaGreatDoorYRxTr
import Derived.Test.YtkmfncajdkdenaaGreatDoorYSetUo
import Derived.Laws.DeepStrings4
set_option linter.unusedVariables false
set_option linter.unusedSimpArgs false
set_option maxRecDepth 100000
set_option maxHeartbeats 40000000
namespace Go.Proofs.YtkmfncajdkdenaaGreatDoor
open Go.RowKit Go.Lib
theorem rin_c (s : List UInt8) (hs : s.length ≤ 1000) (c : Nat) (hc : c < 256) (w : World) :
  Calls Tryz.prog 78 #[.string ⟨s.toArray⟩, .int .u8 (c : Int)] w fun e w' => e = .returned (.bool (inL s c)) ∧ Below w.heap.size w w' := by
 have hsz : (⟨s.toArray⟩ : ByteArray).size = s.length := by simp [ByteArray.size]
 obtain ⟨r, hr⟩ : ∃ r, r = inL s c := ⟨_, rfl⟩
 rw [← hr]
 have HR := Lib.hid hr
 clear hr
 go_enter Tryz.func78, Tryz.ntmps78
 go_wp2
 go_loopw [5] (fun iv wr => ∃ k : Nat, k ≤ s.length ∧ iv = .int .i64 (k : Int) ∧ (∀ (j : Nat) (b : UInt8), j < k → s[j]? = some b → b.toNat ≠ c) ∧ Below w.heap.size w wr) (fun iv _ => s.length - (RowKit.intOf iv).toNat)
 case atStart => exact ⟨0, by omega, rfl, fun j b hj => absurd hj (by omega), Below.refl _ _⟩
 case round =>
  obtain ⟨k, hk, rfl, hg, hB⟩ := hrel
  have HG := Lib.hid hg
  clear hg
  by_cases hlt : k < s.length
  ·have zl : ((k : Int) < s.length) = True := by simp; omega
   obtain ⟨b, hb⟩ : ∃ b, s[k]? = some b := ⟨_, List.getElem?_eq_getElem hlt⟩
   have hx := fun W => ixl_c s k b hb W
   by_cases he : b.toNat = c
   ·have hbe : ((b.toNat : Int) == (c : Int)) = true := by rw [he]; simp
    have hrt : r = true := by
     rw [HR.out]
     unfold inL
     rw [List.any_eq_true]
     exact ⟨b, List.mem_of_getElem? hb, by simp [he]⟩
    subst hrt
    subst he
    clear HG HR hb
    go_wp2
    go_ret
    exact ⟨rfl, hB⟩
   ·have hbe : ((b.toNat : Int) == (c : Int)) = false := by rw [beq_eq_false_iff_ne]; omega
    have HN := Lib.hid (fun j d (hj : j < k + 1) hd => by
     by_cases e : j = k
     ·subst e; rw [hb] at hd; cases hd; exact he
     ·exact HG.out j d (by omega) hd : ∀ (j : Nat) (d : UInt8), j < k + 1 → s[j]? = some d → d.toNat ≠ c)
    clear HG HR hb he
    go_wp2
    go_roundw
    case rel => exact ⟨k + 1, by omega, rfl, HN.out, hB⟩
    case measure => (simp [RowKit.intOf] <;> omega)
  ·obtain rfl : k = s.length := by omega
   have zl : ((s.length : Int) < s.length) = False := by simp
   have hrf : r = false := by
    rw [HR.out]
    unfold inL
    rw [List.any_eq_false]
    intro b hb
    obtain ⟨j, hj, e⟩ := List.mem_iff_getElem.1 hb
    have := HG.out j b hj (by rw [List.getElem?_eq_getElem hj, e])
    simpa using this
   subst hrf
   clear HG HR
   go_wp2
   go_ret
   exact ⟨rfl, hB⟩
theorem rszL_c (f : Nat → Bool) (w : World) :
  Calls Tryz.prog 27 #[bv f] w fun e w' => e = .returned (.int .i64 (cnt f 256 : Nat)) ∧ Below w.heap.size w w' := by
 have HB := Lib.hid fun w => rbytes_c f w
 have h0 := Row.new w f
 have hz := bytesOf_size f
 have hcn := cnt_le f 256
 have hb0 : Below w.heap.size w (w.alloc (.cells (barr f) 30)) := (Below.refl _ w).alloc (Nat.le_refl _) _
 generalize bytesOf f = BB at *
 generalize cnt f 256 = n at *
 unfold bv at HB ⊢
 go_enter Tryz.func27, Tryz.ntmps27
 go_wp2
 refine wp_load_row h0 rfl rfl ?_
 go_wp2_with fail
 refine (HB.out _).mono ?_
 rintro e w1 ⟨rfl, hB⟩
 have hb := hb0.trans (hB.mono hb0.size)
 clear HB hB hb0
 go_wp2
 go_ret
 exact ⟨rfl, hb⟩
end Go.Proofs.YtkmfncajdkdenaaGreatDoor
namespace Go.Proofs.YtkmfncajdkdenaaGreatDoor
open Go.RowKit Go.Lib
theorem sl2_c (s : List UInt8) (p : Nat) (hp : p + 2 ≤ s.length) (W : World) : (Instr.slice 9 (.string ⟨s.toArray⟩) (some (.int .i64 (p : Int))) (some (.int .i64 ((p : Int) + 2))) none).run Tryz.prog W = .ok (.string ⟨((s.drop p).take 2).toArray⟩) W := by
 have hs : (⟨s.toArray⟩ : ByteArray).size = s.length := by simp [ByteArray.size]
 have e : (⟨s.toArray⟩ : ByteArray).extract (p : Int).toNat ((p : Int) + 2).toNat = ⟨((s.drop p).take 2).toArray⟩ := by
  apply ByteArray.ext
  apply Array.ext'
  simp [ByteArray.data_extract]
  omega
 rw [run_slice_string_if (P := Tryz.prog) W 9 _ .i64 .i64 (p : Int) ((p : Int) + 2) Tryz.underlying9, if_pos ⟨by omega, by rw [hs]; omega⟩, if_pos ⟨by omega, by omega⟩, e]
theorem take_two {s : List UInt8} {p : Nat} {c d : UInt8} : ((s.drop p).take 2 = [c, d]) ↔ ah s p [c, d] = true := by
 unfold ah
 cases h : s.drop p with
 | nil => simp [List.isPrefixOf]
 | cons x r =>
  cases r with
  | nil => simp [List.isPrefixOf]
  | cons y r =>
   simp [List.isPrefixOf]
   constructor
   ·rintro ⟨rfl, rfl⟩; exact ⟨rfl, rfl⟩
   ·rintro ⟨rfl, rfl⟩; exact ⟨rfl, rfl⟩
theorem two_eq (s : List UInt8) (p : Nat) (c d : UInt8) : ((⟨((s.drop p).take 2).toArray⟩ : ByteArray).toList == [c, d]) = ah s p [c, d] := by
 rw [ByteArray.toList_eq, Bool.eq_iff_iff, beq_iff_eq]
 simp only [List.toList_toArray]
 exact take_two
theorem slm_c (s : List UInt8) (p q : Nat) (hp : p ≤ q) (hq : q ≤ s.length) (W : World) : (Instr.slice 9 (.string ⟨s.toArray⟩) (some (.int .i64 (p : Int))) (some (.int .i64 (q : Int))) none).run Tryz.prog W = .ok (.string ⟨((s.drop p).take (q - p)).toArray⟩) W := by
 have hs : (⟨s.toArray⟩ : ByteArray).size = s.length := by simp [ByteArray.size]
 have e : (⟨s.toArray⟩ : ByteArray).extract (p : Int).toNat (q : Int).toNat = ⟨((s.drop p).take (q - p)).toArray⟩ := by
  apply ByteArray.ext
  apply Array.ext'
  simp [ByteArray.data_extract, List.drop_take]
 rw [run_slice_string_if (P := Tryz.prog) W 9 _ .i64 .i64 (p : Int) (q : Int) Tryz.underlying9, if_pos ⟨by omega, by rw [hs]; omega⟩, if_pos ⟨by omega, by omega⟩, e]
end Go.Proofs.YtkmfncajdkdenaaGreatDoor
