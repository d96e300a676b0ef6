/- The reference's List: the walk. -/
import Derived.Test.YtkcbknfhckomcaaGreatDoorYBuG
import Derived.Test.YtkcbknfhckomcaaGreatDoorYSetMn
import Derived.Test.YtkcbknfhckomcaaGreatDoorYSetH
set_option linter.unusedVariables false
set_option linter.unusedSimpArgs false
set_option maxRecDepth 100000
set_option maxHeartbeats 40000000
namespace Go.Proofs.YtkcbknfhckomcaaGreatDoor
open Go.RowKit Go.Lib
theorem rlist_c (F : Nat → Bool) (w : World) :
  Calls Tryz.prog 72 #[bv F] w fun e w' => e = .returned (.string ⟨(refList F).toArray⟩) ∧ Below w.heap.size w w' := by
 have h0 := Row.new w F
 have hb0 : Below w.heap.size w (w.alloc (.cells (barr F) 66)) := (Below.refl _ w).alloc (Nat.le_refl _) _
 have HIN := Lib.hid fun c hc w => rin_c [93, 91, 92, 94, 45, 10] (by decide) c hc w
 have HBY := Lib.hid fun w => rbytes_c F w
 have c93 := h0.cell 93 (by decide)
 obtain ⟨base, hbase⟩ : ∃ b, b = [91] ++ onlyP F 93 [93] := ⟨_, rfl⟩
 have hst : ∀ O : ByteArray, O.data.toList = base → LsAt w F base 0 257 O (w.alloc (.cells (barr F) 66)) := fun O h => ⟨by omega, by omega, by rw [h], by
  have e : O.size = O.data.toList.length := by simp
  rw [e, h, hbase]
  have := onlyP_len F 93 [93]
  rw [List.length_append]
  simp only [List.length_cons, List.length_nil] at *
  omega, h0, hb0⟩
 have HST := Lib.hid hst
 have HBASE := Lib.hid hbase
 have hrl : refList F = base ++ lst (leftF F) 257 0 ++ onlyP F 10 [92, 110] ++ onlyP F 91 [91] ++ onlyP F 92 [92] ++ (if bytesL F = [45, 94] then [45, 94, 93] else onlyP F 94 [94] ++ onlyP F 45 [45] ++ [93]) := by rw [hbase]; rfl
 have HRL := Lib.hid hrl
 unfold bv at HBY ⊢
 clear hst hbase hrl hb0 h0
 cases h93 : F 93
 all_goals as_aux_lemma =>
  rw [h93] at c93
  go_enter Tryz.func72, Tryz.ntmps72
  go_wp2_with fail
  go_loopw [3, 4] (fun ov iv wr => ∃ (k fu : Nat) (O : ByteArray), ov = .string O ∧ iv = .int .i64 (k : Int) ∧ LsAt w F base k fu O wr) (fun _ iv _ => 256 - (RowKit.intOf iv).toNat)
  case atStart => exact ⟨0, 257, _, rfl, rfl, HST.out _ (by rw [HBASE.out]; simp [onlyP, h93])⟩
  case round =>
   clear HST HBASE h93 c93
   obtain ⟨k, fu, O, rfl, rfl, hA⟩ := hrel
   have hk := hA.kl
   have hOs := hA.sz
   by_cases hlt : k < 256
   ·have zk : ((k : Int) < 256) = True := by simp; omega
    have hc := hA.row.cell k hlt
    have euk : IntKind.u8.wrap (k : Int) = (k : Int) := by simp [IntKind.wrap, IntKind.signed, IntKind.bits]; omega
    have y1 : (9223372036854775807 < O.size + 1) = False := by simp; omega
    have y3 : (9223372036854775807 < O.size + 3) = False := by simp; omega
    have HA := Lib.hid hA
    clear hA HRL HBY
    cases hf : F k with
    | false =>
     rw [hf] at hc
     have HN := Lib.hid (HA.out.skip hlt (by rw [left_eq, hf]; rfl))
     clear HA HIN
     go_wp2
     go_roundw
     case rel => exact ⟨k + 1, _, O, rfl, rfl, HN.out⟩
     case measure => (simp [RowKit.intOf] <;> omega)
    | true =>
     rw [hf] at hc
     have HI := Lib.hid (HIN.out k hlt wr)
     go_wp2_with fail
     refine HI.out.mono ?_
     rintro e wa ⟨rfl, hBa⟩
     have HA := Lib.hid (HA.out.below hBa)
     clear HI hBa hc
     cases ha : inL [93, 91, 92, 94, 45, 10] k with
     | true =>
      have HN := Lib.hid (HA.out.skip hlt (by rw [left_eq, hf, ha]; rfl))
      clear HA HIN
      go_wp2
      go_roundw
      case rel => exact ⟨k + 1, _, O, rfl, rfl, HN.out⟩
      case measure => (simp [RowKit.intOf] <;> omega)
     | false =>
      have HPK := Lib.hid (show leftF F k = true by rw [left_eq, hf, ha]; rfl)
      have HC1 := Lib.hid fun b W h => rconv1 k hlt b W h
      have HC3 := Lib.hid fun j hj b W h0 h1 h2 => rconv3 k j hlt hj b W h0 h1 h2
      clear hf ha
      go_wp2_with fail
      go_loopw [5] (fun jv wi => ∃ (j d : Nat), jv = .int .i64 (j : Int) ∧ k ≤ j ∧ j < 256 ∧ 256 ≤ d + j ∧ Hid (runTo (leftF F) d j = runTo (leftF F) 256 k) ∧ LsAt w F base k fu O wi) (fun jv _ => 256 - (RowKit.intOf jv).toNat)
      case atStart => exact ⟨k, 256, rfl, by omega, hlt, by omega, Lib.hid rfl, HA.out⟩
      case round =>
       clear HA
       obtain ⟨j, d, rfl, hkj, hj256, hd, hrt, hA⟩ := hrel
       have HA := Lib.hid hA
       have ewj : IntKind.i64.wrap ((j : Int) + 1) = (j : Int) + 1 := by simp [IntKind.wrap, IntKind.signed, IntKind.bits]; omega
       have eu8j : IntKind.u8.wrap (j : Int) = (j : Int) := by simp [IntKind.wrap, IntKind.signed, IntKind.bits]; omega
       by_cases hje : j + 1 < 256
       ·have zj : ((j : Int) + 1 < 256) = True := by simp; omega
        have eu8 : IntKind.u8.wrap ((j : Int) + 1) = (j : Int) + 1 := by simp [IntKind.wrap, IntKind.signed, IntKind.bits]; omega
        have hc1 := hA.row.cell (j + 1) hje
        clear hA
        cases hf1 : F (j + 1) with
        | false =>
         rw [hf1] at hc1
         have hno : ¬ (j + 1 < 256 ∧ leftF F (j + 1) = true) := fun h => by (have h2 := h.2; rw [left_eq, hf1] at h2; cases h2)
         have hR := Lib.hid (runTo_stop hrt.out hno)
         clear hrt hno
         by_cases h2 : k + 2 ≤ j
         ·have z2 : ((2 : Int) ≤ (j : Int) - (k : Int)) = True := by simp; omega
          have ews : IntKind.i64.wrap ((j : Int) - (k : Int)) = (j : Int) - (k : Int) := by simp [IntKind.wrap, IntKind.signed, IntKind.bits]; omega
          have hl3 := HA.out.three hlt HPK.out (by rw [hR.out]; exact h2)
          rw [hR.out] at hl3
          have hrl := HA.out.row.lt
          have hal := (Below.refl _ wr).alloc (Nat.le_refl _) (.cells #[.int .u8 (k : Int), .int .u8 45, .int .u8 (j : Int)] 5)
          have hn := heap_new wr (.cells #[.int .u8 (k : Int), .int .u8 45, .int .u8 (j : Int)] 5)
          have hcv := HC3.out j hj256 wr.heap.size _ (cell_of _ _ _ _ hn 0) (cell_of _ _ _ _ hn 1) (cell_of _ _ _ _ hn 2)
          have HL := Lib.hid (hl3.below hal)
          clear hl3 hal hn HA HPK HC1 HC3 HIN hR
          go_wp2
          go_roundw
          case rel => exact ⟨_, _, _, rfl, rfl, HL.out⟩
          case measure => (simp [RowKit.intOf] <;> omega)
         ·have z2 : ((2 : Int) ≤ (j : Int) - (k : Int)) = False := by simp; omega
          have ews : IntKind.i64.wrap ((j : Int) - (k : Int)) = (j : Int) - (k : Int) := by simp [IntKind.wrap, IntKind.signed, IntKind.bits]; omega
          have hl1 := HA.out.one hlt HPK.out (by rw [hR.out]; exact h2)
          have hal := (Below.refl _ wr).alloc (Nat.le_refl _) (.cells #[.int .u8 (k : Int)] 5)
          have hn := heap_new wr (.cells #[.int .u8 (k : Int)] 5)
          have hcv := HC1.out wr.heap.size _ (cell_of _ _ _ _ hn 0)
          have HL := Lib.hid (hl1.below hal)
          clear hl1 hal hn HA HPK HC1 HC3 HIN hR
          go_wp2
          go_roundw
          case rel => exact ⟨_, _, _, rfl, rfl, HL.out⟩
          case measure => (simp [RowKit.intOf] <;> omega)
        | true =>
         rw [hf1] at hc1
         have HI1 := Lib.hid (HIN.out (j + 1) hje wr)
         go_wp2_with fail
         refine HI1.out.mono ?_
         rintro e wb ⟨rfl, hBb⟩
         have HA := Lib.hid (HA.out.below hBb)
         clear hc1 hBb
         cases ha1 : inL [93, 91, 92, 94, 45, 10] (j + 1) with
         | true =>
          have hno : ¬ (j + 1 < 256 ∧ leftF F (j + 1) = true) := fun h => by (have h2 := h.2; rw [left_eq, hf1, ha1] at h2; cases h2)
          have hR := Lib.hid (runTo_stop hrt.out hno)
          clear hrt hno
          by_cases h2 : k + 2 ≤ j
          ·have z2 : ((2 : Int) ≤ (j : Int) - (k : Int)) = True := by simp; omega
           have ews : IntKind.i64.wrap ((j : Int) - (k : Int)) = (j : Int) - (k : Int) := by simp [IntKind.wrap, IntKind.signed, IntKind.bits]; omega
           have hl3 := HA.out.three hlt HPK.out (by rw [hR.out]; exact h2)
           rw [hR.out] at hl3
           have hrl := HA.out.row.lt
           have hal := (Below.refl _ wb).alloc (Nat.le_refl _) (.cells #[.int .u8 (k : Int), .int .u8 45, .int .u8 (j : Int)] 5)
           have hn := heap_new wb (.cells #[.int .u8 (k : Int), .int .u8 45, .int .u8 (j : Int)] 5)
           have hcv := HC3.out j hj256 wb.heap.size _ (cell_of _ _ _ _ hn 0) (cell_of _ _ _ _ hn 1) (cell_of _ _ _ _ hn 2)
           have HL := Lib.hid (hl3.below hal)
           clear hl3 hal hn HA HPK HC1 HC3 HIN hR
           go_wp2
           go_roundw
           case rel => exact ⟨_, _, _, rfl, rfl, HL.out⟩
           case measure => (simp [RowKit.intOf] <;> omega)
          ·have z2 : ((2 : Int) ≤ (j : Int) - (k : Int)) = False := by simp; omega
           have ews : IntKind.i64.wrap ((j : Int) - (k : Int)) = (j : Int) - (k : Int) := by simp [IntKind.wrap, IntKind.signed, IntKind.bits]; omega
           have hl1 := HA.out.one hlt HPK.out (by rw [hR.out]; exact h2)
           have hal := (Below.refl _ wb).alloc (Nat.le_refl _) (.cells #[.int .u8 (k : Int)] 5)
           have hn := heap_new wb (.cells #[.int .u8 (k : Int)] 5)
           have hcv := HC1.out wb.heap.size _ (cell_of _ _ _ _ hn 0)
           have HL := Lib.hid (hl1.below hal)
           clear hl1 hal hn HA HPK HC1 HC3 HIN hR
           go_wp2
           go_roundw
           case rel => exact ⟨_, _, _, rfl, rfl, HL.out⟩
           case measure => (simp [RowKit.intOf] <;> omega)
         | false =>
          have hrn := Lib.hid (runTo_next hrt.out hd hje (by rw [left_eq, hf1, ha1]; rfl))
          clear hrt HC1 HC3 HPK HI1
          go_wp2
          go_roundw
          case rel => exact ⟨j + 1, d - 1, rfl, by omega, by omega, by omega, hrn, HA.out⟩
          case measure => (simp [RowKit.intOf] <;> omega)
       ·have zj : ((j : Int) + 1 < 256) = False := by simp; omega
        clear hA
        have hno : ¬ (j + 1 < 256 ∧ leftF F (j + 1) = true) := fun h => hje h.1
        have hR := Lib.hid (runTo_stop hrt.out hno)
        clear hrt hno
        by_cases h2 : k + 2 ≤ j
        ·have z2 : ((2 : Int) ≤ (j : Int) - (k : Int)) = True := by simp; omega
         have ews : IntKind.i64.wrap ((j : Int) - (k : Int)) = (j : Int) - (k : Int) := by simp [IntKind.wrap, IntKind.signed, IntKind.bits]; omega
         have hl3 := HA.out.three hlt HPK.out (by rw [hR.out]; exact h2)
         rw [hR.out] at hl3
         have hrl := HA.out.row.lt
         have hal := (Below.refl _ wr).alloc (Nat.le_refl _) (.cells #[.int .u8 (k : Int), .int .u8 45, .int .u8 (j : Int)] 5)
         have hn := heap_new wr (.cells #[.int .u8 (k : Int), .int .u8 45, .int .u8 (j : Int)] 5)
         have hcv := HC3.out j hj256 wr.heap.size _ (cell_of _ _ _ _ hn 0) (cell_of _ _ _ _ hn 1) (cell_of _ _ _ _ hn 2)
         have HL := Lib.hid (hl3.below hal)
         clear hl3 hal hn HA HPK HC1 HC3 HIN hR
         go_wp2
         go_roundw
         case rel => exact ⟨_, _, _, rfl, rfl, HL.out⟩
         case measure => (simp [RowKit.intOf] <;> omega)
        ·have z2 : ((2 : Int) ≤ (j : Int) - (k : Int)) = False := by simp; omega
         have ews : IntKind.i64.wrap ((j : Int) - (k : Int)) = (j : Int) - (k : Int) := by simp [IntKind.wrap, IntKind.signed, IntKind.bits]; omega
         have hl1 := HA.out.one hlt HPK.out (by rw [hR.out]; exact h2)
         have hal := (Below.refl _ wr).alloc (Nat.le_refl _) (.cells #[.int .u8 (k : Int)] 5)
         have hn := heap_new wr (.cells #[.int .u8 (k : Int)] 5)
         have hcv := HC1.out wr.heap.size _ (cell_of _ _ _ _ hn 0)
         have HL := Lib.hid (hl1.below hal)
         clear hl1 hal hn HA HPK HC1 HC3 HIN hR
         go_wp2
         go_roundw
         case rel => exact ⟨_, _, _, rfl, rfl, HL.out⟩
         case measure => (simp [RowKit.intOf] <;> omega)
   ·obtain rfl : k = 256 := by omega
    have zk : ((256 : Int) < 256) = False := by simp
    have hO : O.data.toList = base ++ lst (leftF F) 257 0 := by
     obtain ⟨f, rfl⟩ : ∃ f, fu = f + 1 := ⟨fu - 1, by have := hA.f; omega⟩
     have h1 := hA.eq
     rw [lst, if_pos (by omega), List.append_nil] at h1
     exact h1
    have hHP := HRL.out
    rw [← hO] at hHP
    have c10 := hA.row.cell 10 (by decide)
    have c91 := hA.row.cell 91 (by decide)
    have c92 := hA.row.cell 92 (by decide)
    have HA := Lib.hid hA
    have HP := Lib.hid hHP
    have HBL := Lib.hid (show bytesL F = (bytesOf F).data.toList from rfl)
    clear hA hHP hO HRL HIN
    generalize bytesOf F = BB at HBY HBL
    have y100 : (9223372036854775807 < O.size + 1) = False := by simp; omega
    have y101 : (9223372036854775807 < O.size + 1 + 1) = False := by simp; omega
    have y102 : (9223372036854775807 < O.size + 1 + 1 + 1) = False := by simp; omega
    have y103 : (9223372036854775807 < O.size + 1 + 1 + 1 + 1) = False := by simp; omega
    have y104 : (9223372036854775807 < O.size + 1 + 1 + 1 + 1 + 1) = False := by simp; omega
    have y105 : (9223372036854775807 < O.size + 3) = False := by simp; omega
    have y106 : (9223372036854775807 < O.size + 1 + 3) = False := by simp; omega
    have y107 : (9223372036854775807 < O.size + 1 + 1 + 3) = False := by simp; omega
    have y108 : (9223372036854775807 < O.size + 2) = False := by simp; omega
    have y109 : (9223372036854775807 < O.size + 2 + 1) = False := by simp; omega
    have y110 : (9223372036854775807 < O.size + 2 + 1 + 1) = False := by simp; omega
    have y111 : (9223372036854775807 < O.size + 2 + 1 + 1 + 1) = False := by simp; omega
    have y112 : (9223372036854775807 < O.size + 2 + 1 + 1 + 1 + 1) = False := by simp; omega
    have y113 : (9223372036854775807 < O.size + 2 + 1 + 1 + 1 + 1 + 1) = False := by simp; omega
    have y114 : (9223372036854775807 < O.size + 2 + 3) = False := by simp; omega
    have y115 : (9223372036854775807 < O.size + 2 + 1 + 3) = False := by simp; omega
    have y116 : (9223372036854775807 < O.size + 2 + 1 + 1 + 3) = False := by simp; omega
    cases h10 : F 10 <;> cases h91 : F 91 <;> cases h92 : F 92
    all_goals as_aux_lemma =>
     rw [h10] at c10
     rw [h91] at c91
     rw [h92] at c92
     go_wp2
     refine wp_load_row HA.out.row rfl rfl ?_
     go_wp2_with fail
     refine (HBY.out _).mono ?_
     rintro e wz ⟨rfl, hBz⟩
     have hrz := HA.out.row.below hBz HA.out.row.lt
     have c94 := hrz.cell 94 (by decide)
     have c45 := hrz.cell 45 (by decide)
     have HB := Lib.hid (HA.out.bel.trans (hBz.mono HA.out.bel.size))
     clear HA HBY hBz hrz c10 c91 c92
     by_cases hbb : BB.data.toList = [45, 94]
     ·have hbq : (BB.toList == [45, 94]) = true := by rw [ByteArray.toList_eq]; simpa using hbb
      have HBB := Lib.hid hbb
      clear hbb
      go_wp2
      go_ret
      refine ⟨congrArg (fun t : ByteArray => Ending.returned (Value.string t)) (?_ : _ = (⟨(refList F).toArray⟩ : ByteArray)), HB.out⟩
      apply Go.WideShapes.bytes_inj
      rw [HP.out]
      simp [onlyP, h10, h91, h92, HBL.out, HBB.out]
     ·have hbq : (BB.toList == [45, 94]) = false := by rw [ByteArray.toList_eq]; simpa using hbb
      have HBB := Lib.hid hbb
      clear hbb
      cases h94 : F 94 <;> cases h45 : F 45
      all_goals
       rw [h94] at c94
       rw [h45] at c45
       go_wp2
       go_ret
       refine ⟨congrArg (fun t : ByteArray => Ending.returned (Value.string t)) (?_ : _ = (⟨(refList F).toArray⟩ : ByteArray)), HB.out⟩
       apply Go.WideShapes.bytes_inj
       rw [HP.out]
       simp [onlyP, h10, h91, h92, h94, h45, HBL.out, HBB.out]
end Go.Proofs.YtkcbknfhckomcaaGreatDoor
namespace Go.Proofs.YtkcbknfhckomcaaGreatDoor
open Go.RowKit Go.Lib
theorem bytesL_congr {F G : Nat → Bool} (h : ∀ i, i < 256 → F i = G i) : bytesL F = bytesL G := by
 rw [bytesL_from, bytesL_from]
 unfold bFrom
 congr 1
 apply List.filter_congr
 intro i hi
 have := List.mem_range'_1.1 hi
 exact h i (by omega)
theorem hat_bytes (F : Nat → Bool) : hatDash F = true ↔ bytesL F = [45, 94] := by
 constructor
 ·intro h
  rw [bytesL_congr (hat_of h)]
  decide +kernel
 ·intro h
  refine hat_iff (fun i hi => ?_)
  rw [← inL_bytes F i hi, h, Bool.eq_iff_iff]
  simp [inL, inS]
  omega
theorem refList_eq (F : Nat → Bool) : refList F = [91] ++ listP F ++ [93] := by
 unfold refList listP
 rw [lst_all]
 cases hh : hatDash F with
 | true =>
  have hb := (hat_bytes F).1 hh
  have hs := hat_of hh
  have z : ∀ c, c < 256 → c ≠ 94 → c ≠ 45 → F c = false := fun c hc h1 h2 => by
   rw [hs c hc]
   simp [inS]
   omega
  have hl : bytesL (leftF F) = [] := by
   have e : bytesL (leftF F) = bytesL (fun _ => false) := bytesL_congr (fun i hi => by
    rw [left_eq, hs i hi, aside_in, Bool.eq_iff_iff]
    simp [inS]
    omega)
   rw [e]
   decide +kernel
  rw [if_pos hb, if_pos rfl, hl]
  simp only [onlyP, z 93 (by decide) (by decide) (by decide), z 10 (by decide) (by decide) (by decide), z 91 (by decide) (by decide) (by decide), z 92 (by decide) (by decide) (by decide)]
  rfl
 | false =>
  have hb : ¬ bytesL F = [45, 94] := fun e => by rw [(hat_bytes F).2 e] at hh; cases hh
  rw [if_neg hb]
  simp
theorem refShown_eq (F : Nat → Bool) (h0 : cnt F 256 ≠ 0) (h1 : cnt F 256 ≠ 1) (h2 : cnt F 256 ≠ 256) : refList F = showP F := by
 unfold showP
 rw [if_neg h0, if_neg h1, if_neg h2]
 exact refList_eq F
theorem rshown_c (F : Nat → Bool) (w : World) :
  Calls Tryz.prog 51 #[bv F, .string ⟨#[46, 91, 92, 42, 94, 36]⟩] w fun e w' => e = .returned (.string ⟨(showP F).toArray⟩) ∧ Below w.heap.size w w' := by
 have hsz := fun w => rszL_c F w
 have hby := fun w => rbytes_c F w
 have hls := fun w => rlist_c F w
 have h0 := Row.new w F
 have hb0 : Below w.heap.size w (w.alloc (.cells (barr F) 66)) := (Below.refl _ w).alloc (Nat.le_refl _) _
 have hbl := bytesL_len F
 have hbe : bytesOf F = ⟨(bytesL F).toArray⟩ := by unfold bytesL; simp
 rw [hbe] at hby
 obtain ⟨n, hn⟩ : ∃ n, n = cnt F 256 := ⟨_, rfl⟩
 have hcn := cnt_le F 256
 have HS0 : n = 0 → showP F = [] := fun h => by unfold showP; rw [if_pos (by omega)]
 have HS1 : n = 1 → ∀ c, bytesL F = [c] → showP F = showOneP c := fun h c hc => by unfold showP; rw [if_neg (by omega), if_pos (by omega), hc]
 have HS2 : n = 256 → showP F = [46] := fun h => by unfold showP; rw [if_neg (by omega), if_neg (by omega), if_pos (by omega)]
 have HS3 : n ≠ 0 → n ≠ 1 → n ≠ 256 → showP F = refList F := fun a b c => (refShown_eq F (by omega) (by omega) (by omega)).symm
 rw [← hn] at hsz hbl hcn
 obtain ⟨R, hR⟩ : ∃ R, R = showP F := ⟨_, rfl⟩
 rw [← hR] at HS0 HS1 HS2 HS3 ⊢
 obtain ⟨RL, hRL⟩ : ∃ R, R = refList F := ⟨_, rfl⟩
 rw [← hRL] at HS3 hls
 clear hn hR hRL hbe
 rcases (by omega : n = 0 ∨ n = 1 ∨ n = 256 ∨ (n ≠ 0 ∧ n ≠ 1 ∧ n ≠ 256)) with rfl | rfl | rfl | ⟨n0, n1, n2⟩
 ·have HP := Lib.hid (HS0 rfl)
  have HSZ := Lib.hid hsz
  clear hsz hby hls hbl HS0 HS1 HS2 HS3
  unfold bv at HSZ ⊢
  go_enter Tryz.func51, Tryz.ntmps51
  go_wp2
  refine wp_load_row h0 rfl rfl ?_
  go_wp2_with fail
  refine (HSZ.out _).mono ?_
  rintro e w1 ⟨rfl, hB1⟩
  have HB := Lib.hid (hb0.trans (hB1.mono hb0.size))
  go_wp2
  go_ret
  exact ⟨by rw [HP.out]; rfl, HB.out⟩
 ·obtain ⟨c, hc⟩ := List.length_eq_one_iff.1 hbl
  have HP := Lib.hid (HS1 rfl c hc)
  rw [hc] at hby
  have hcl := c.toNat_lt
  have hsp := fun w => rspecial_c c.toNat (by omega) w
  have e1 : UInt8.ofNat c.toNat = c := by simp
  rw [e1] at hsp
  have HSZ := Lib.hid hsz
  have HBY := Lib.hid hby
  have HSP := Lib.hid hsp
  have hix := fun W => ixl_c [c] 0 c rfl W
  clear hsz hby hls hbl HS0 HS1 HS2 HS3 hsp e1 hc
  unfold bv at HSZ HBY ⊢
  go_enter Tryz.func51, Tryz.ntmps51
  go_wp2
  refine wp_load_row h0 rfl rfl ?_
  go_wp2_with fail
  refine (HSZ.out _).mono ?_
  rintro e w1 ⟨rfl, hB1⟩
  have h1 := h0.below hB1 h0.lt
  have hb1 := hb0.trans (hB1.mono hb0.size)
  clear HSZ hB1
  go_wp2
  refine wp_load_row h1 rfl rfl ?_
  go_wp2_with fail
  refine (HBY.out _).mono ?_
  rintro e w2 ⟨rfl, hB2⟩
  have hb2 := hb1.trans (hB2.mono hb1.size)
  clear HBY hB2 hb1 h1
  go_wp2_with fail
  refine (HSP.out _).mono ?_
  rintro e w3 ⟨rfl, hB3⟩
  have HB := Lib.hid (hb2.trans (hB3.mono hb2.size))
  clear HSP hB3 hb2
  go_wp2
  go_ret
  exact ⟨by rw [HP.out]; rfl, HB.out⟩
 ·have HP := Lib.hid (HS2 rfl)
  have HSZ := Lib.hid hsz
  clear hsz hby hls hbl HS0 HS1 HS2 HS3
  unfold bv at HSZ ⊢
  go_enter Tryz.func51, Tryz.ntmps51
  go_wp2
  refine wp_load_row h0 rfl rfl ?_
  go_wp2_with fail
  refine (HSZ.out _).mono ?_
  rintro e w1 ⟨rfl, hB1⟩
  have HB := Lib.hid (hb0.trans (hB1.mono hb0.size))
  go_wp2
  go_ret
  exact ⟨by rw [HP.out]; rfl, HB.out⟩
 ·have HP := Lib.hid (HS3 n0 n1 n2)
  have q0 : ((n : Int) == 0) = false := by rw [beq_eq_false_iff_ne]; omega
  have q1 : ((n : Int) == 1) = false := by rw [beq_eq_false_iff_ne]; omega
  have q2 : ((n : Int) == 256) = false := by rw [beq_eq_false_iff_ne]; omega
  have HSZ := Lib.hid hsz
  have HLS := Lib.hid hls
  clear hsz hby hls hbl HS0 HS1 HS2 HS3 n0 n1 n2
  unfold bv at HSZ HLS ⊢
  go_enter Tryz.func51, Tryz.ntmps51
  go_wp2
  refine wp_load_row h0 rfl rfl ?_
  go_wp2_with fail
  refine (HSZ.out _).mono ?_
  rintro e w1 ⟨rfl, hB1⟩
  have h1 := h0.below hB1 h0.lt
  have hb1 := hb0.trans (hB1.mono hb0.size)
  clear HSZ hB1
  go_wp2
  refine wp_load_row h1 rfl rfl ?_
  go_wp2_with fail
  refine (HLS.out _).mono ?_
  rintro e w2 ⟨rfl, hB2⟩
  have HB := Lib.hid (hb1.trans (hB2.mono hb1.size))
  clear HLS hB2 hb1 h1
  go_wp2
  go_ret
  exact ⟨by rw [HP.out]; rfl, HB.out⟩
theorem rshow_c (F : Nat → Bool) (w : World) :
  Calls Tryz.prog 30 #[bv F] w fun e w' => e = .returned (.string ⟨(showP F).toArray⟩) ∧ Below w.heap.size w w' := by
 have HS := Lib.hid fun w => rshown_c F w
 have h0 := Row.new w F
 have hb0 : Below w.heap.size w (w.alloc (.cells (barr F) 66)) := (Below.refl _ w).alloc (Nat.le_refl _) _
 unfold bv at HS ⊢
 go_enter Tryz.func30, Tryz.ntmps30
 go_wp2
 refine wp_load_row h0 rfl rfl ?_
 go_wp2_with fail
 refine (HS.out _).mono ?_
 rintro e w1 ⟨rfl, hB1⟩
 have HB := Lib.hid (hb0.trans (hB1.mono hb0.size))
 go_wp2
 go_ret
 exact ⟨rfl, HB.out⟩
end Go.Proofs.YtkcbknfhckomcaaGreatDoor
