/- The reference's List, where ] is not in the set: the walk. -/
import Derived.Test.YthbldjiibgnfmaaGreatDoorZBtM
namespace Go.Proofs.YthbldjiibgnfmaaGreatDoor
open Go.RowKit Go.Lib
set_option linter.unusedVariables false
set_option linter.unusedSimpArgs false

set_option maxRecDepth 100000 in
set_option maxHeartbeats 400000000 in
theorem rlist_b (F : Nat → Bool) (h93 : F 93 = false) (w : World) :
    Calls Tryz.prog 45 #[bv F] w fun e w' => e = .returned (.string ⟨(refList F).toArray⟩) ∧ Below w.heap.size w w' := by
  have h0 := Row.new w F
  have hb0 : Below w.heap.size w (w.alloc (.cells (barr F) 28)) := (Below.refl _ w).alloc (Nat.le_refl _) _
  have HIN := Lib.hid fun c hc w => rin_c [93, 91, 92, 94, 45, 10] (by decide) c hc w
  have HBY := Lib.hid fun w => rbytes_c F w
  have c93 := h0.cell 93 (by decide)
  obtain ⟨base, hbase⟩ : ∃ b, b = [91] ++ onlyP F 93 [93] := ⟨_, rfl⟩
  have hst : ∀ O : ByteArray, O.data.toList = base → LsAt w F base 0 257 O (w.alloc (.cells (barr F) 28)) := fun O h => ⟨by omega, by omega, by rw [h], by
    have e : O.size = O.data.toList.length := by simp
    rw [e, h, hbase]
    have := onlyP_len F 93 [93]
    rw [List.length_append]
    simp only [List.length_cons, List.length_nil] at *
    omega, h0, hb0⟩
  have HST := Lib.hid hst
  have HBASE := Lib.hid hbase
  have hrl : refList F = base ++ lst (leftF F) 257 0 ++ onlyP F 10 [92, 110] ++ onlyP F 91 [91] ++ onlyP F 92 [92] ++ (if bytesL F = [45, 94] then [45, 94, 93] else onlyP F 94 [94] ++ onlyP F 45 [45] ++ [93]) := by rw [hbase]; rfl
  have HRL := Lib.hid hrl
  unfold bv at HBY ⊢
  clear hst hbase hrl hb0 h0
  rw [h93] at c93
  go_enter Tryz.func45, Tryz.ntmps45
  go_wp2_with fail
  go_loopw [3, 4] (fun ov iv wr => ∃ (k fu : Nat) (O : ByteArray), ov = .string O ∧ iv = .int .i64 (k : Int) ∧ LsAt w F base k fu O wr) (fun _ iv _ => 256 - (RowKit.intOf iv).toNat)
  case atStart => exact ⟨0, 257, _, rfl, rfl, HST.out _ (by rw [HBASE.out]; simp [onlyP, h93])⟩
  case round =>
    clear HST HBASE h93 c93
    obtain ⟨k, fu, O, rfl, rfl, hA⟩ := hrel
    have hk := hA.kl
    have hOs := hA.sz
    by_cases hlt : k < 256
    · have zk : ((k : Int) < 256) = True := by simp; omega
      have hc := hA.row.cell k hlt
      have euk : IntKind.u8.wrap (k : Int) = (k : Int) := by simp [IntKind.wrap, IntKind.signed, IntKind.bits]; omega
      have y1 : (9223372036854775807 < O.size + 1) = False := by simp; omega
      have y3 : (9223372036854775807 < O.size + 3) = False := by simp; omega
      have HA := Lib.hid hA
      clear hA HRL HBY
      cases hf : F k with
      | false =>
        rw [hf] at hc
        have HN := Lib.hid (HA.out.skip hlt (by rw [left_eq, hf]; rfl))
        clear HA HIN
        go_wp2
        go_roundw
        case rel => exact ⟨k + 1, _, O, rfl, rfl, HN.out⟩
        case measure => (simp [RowKit.intOf] <;> omega)
      | true =>
        rw [hf] at hc
        have HI := Lib.hid (HIN.out k hlt wr)
        go_wp2_with fail
        refine HI.out.mono ?_
        rintro e wa ⟨rfl, hBa⟩
        have HA := Lib.hid (HA.out.below hBa)
        clear HI hBa hc
        cases ha : inL [93, 91, 92, 94, 45, 10] k with
        | true =>
          have HN := Lib.hid (HA.out.skip hlt (by rw [left_eq, hf, ha]; rfl))
          clear HA HIN
          go_wp2
          go_roundw
          case rel => exact ⟨k + 1, _, O, rfl, rfl, HN.out⟩
          case measure => (simp [RowKit.intOf] <;> omega)
        | false =>
          have HPK := Lib.hid (show leftF F k = true by rw [left_eq, hf, ha]; rfl)
          have HC1 := Lib.hid fun b W h => rconv1 k hlt b W h
          have HC3 := Lib.hid fun j hj b W h0 h1 h2 => rconv3 k j hlt hj b W h0 h1 h2
          clear hf ha
          go_wp2_with fail
          go_loopw [5] (fun jv wi => ∃ (j d : Nat), jv = .int .i64 (j : Int) ∧ k ≤ j ∧ j < 256 ∧ 256 ≤ d + j ∧ Hid (runTo (leftF F) d j = runTo (leftF F) 256 k) ∧ LsAt w F base k fu O wi) (fun jv _ => 256 - (RowKit.intOf jv).toNat)
          case atStart => exact ⟨k, 256, rfl, by omega, hlt, by omega, Lib.hid rfl, HA.out⟩
          case round =>
            clear HA
            obtain ⟨j, d, rfl, hkj, hj256, hd, hrt, hA⟩ := hrel
            have HA := Lib.hid hA
            have ewj : IntKind.i64.wrap ((j : Int) + 1) = (j : Int) + 1 := by simp [IntKind.wrap, IntKind.signed, IntKind.bits]; omega
            have eu8j : IntKind.u8.wrap (j : Int) = (j : Int) := by simp [IntKind.wrap, IntKind.signed, IntKind.bits]; omega
            by_cases hje : j + 1 < 256
            · have zj : ((j : Int) + 1 < 256) = True := by simp; omega
              have eu8 : IntKind.u8.wrap ((j : Int) + 1) = (j : Int) + 1 := by simp [IntKind.wrap, IntKind.signed, IntKind.bits]; omega
              have hc1 := hA.row.cell (j + 1) hje
              clear hA
              cases hf1 : F (j + 1) with
              | false =>
                rw [hf1] at hc1
                have hno : ¬ (j + 1 < 256 ∧ leftF F (j + 1) = true) := fun h => by (have h2 := h.2; rw [left_eq, hf1] at h2; cases h2)
                have hR := Lib.hid (runTo_stop hrt.out hno)
                clear hrt hno
                by_cases h2 : k + 2 ≤ j
                · have z2 : ((2 : Int) ≤ (j : Int) - (k : Int)) = True := by simp; omega
                  have ews : IntKind.i64.wrap ((j : Int) - (k : Int)) = (j : Int) - (k : Int) := by simp [IntKind.wrap, IntKind.signed, IntKind.bits]; omega
                  have hl3 := HA.out.three hlt HPK.out (by rw [hR.out]; exact h2)
                  rw [hR.out] at hl3
                  have hrl := HA.out.row.lt
                  have hal := (Below.refl _ wr).alloc (Nat.le_refl _) (.cells #[.int .u8 (k : Int), .int .u8 45, .int .u8 (j : Int)] 5)
                  have hn := heap_new wr (.cells #[.int .u8 (k : Int), .int .u8 45, .int .u8 (j : Int)] 5)
                  have hcv := HC3.out j hj256 wr.heap.size _ (cell_of _ _ _ _ hn 0) (cell_of _ _ _ _ hn 1) (cell_of _ _ _ _ hn 2)
                  have HL := Lib.hid (hl3.below hal)
                  clear hl3 hal hn HA HPK HC1 HC3 HIN hR
                  go_wp2
                  go_roundw
                  case rel => exact ⟨_, _, _, rfl, rfl, HL.out⟩
                  case measure => (simp [RowKit.intOf] <;> omega)
                · have z2 : ((2 : Int) ≤ (j : Int) - (k : Int)) = False := by simp; omega
                  have ews : IntKind.i64.wrap ((j : Int) - (k : Int)) = (j : Int) - (k : Int) := by simp [IntKind.wrap, IntKind.signed, IntKind.bits]; omega
                  have hl1 := HA.out.one hlt HPK.out (by rw [hR.out]; exact h2)
                  have hal := (Below.refl _ wr).alloc (Nat.le_refl _) (.cells #[.int .u8 (k : Int)] 5)
                  have hn := heap_new wr (.cells #[.int .u8 (k : Int)] 5)
                  have hcv := HC1.out wr.heap.size _ (cell_of _ _ _ _ hn 0)
                  have HL := Lib.hid (hl1.below hal)
                  clear hl1 hal hn HA HPK HC1 HC3 HIN hR
                  go_wp2
                  go_roundw
                  case rel => exact ⟨_, _, _, rfl, rfl, HL.out⟩
                  case measure => (simp [RowKit.intOf] <;> omega)
              | true =>
                rw [hf1] at hc1
                have HI1 := Lib.hid (HIN.out (j + 1) hje wr)
                go_wp2_with fail
                refine HI1.out.mono ?_
                rintro e wb ⟨rfl, hBb⟩
                have HA := Lib.hid (HA.out.below hBb)
                clear hc1 hBb
                cases ha1 : inL [93, 91, 92, 94, 45, 10] (j + 1) with
                | true =>
                  have hno : ¬ (j + 1 < 256 ∧ leftF F (j + 1) = true) := fun h => by (have h2 := h.2; rw [left_eq, hf1, ha1] at h2; cases h2)
                  have hR := Lib.hid (runTo_stop hrt.out hno)
                  clear hrt hno
                  by_cases h2 : k + 2 ≤ j
                  · have z2 : ((2 : Int) ≤ (j : Int) - (k : Int)) = True := by simp; omega
                    have ews : IntKind.i64.wrap ((j : Int) - (k : Int)) = (j : Int) - (k : Int) := by simp [IntKind.wrap, IntKind.signed, IntKind.bits]; omega
                    have hl3 := HA.out.three hlt HPK.out (by rw [hR.out]; exact h2)
                    rw [hR.out] at hl3
                    have hrl := HA.out.row.lt
                    have hal := (Below.refl _ wb).alloc (Nat.le_refl _) (.cells #[.int .u8 (k : Int), .int .u8 45, .int .u8 (j : Int)] 5)
                    have hn := heap_new wb (.cells #[.int .u8 (k : Int), .int .u8 45, .int .u8 (j : Int)] 5)
                    have hcv := HC3.out j hj256 wb.heap.size _ (cell_of _ _ _ _ hn 0) (cell_of _ _ _ _ hn 1) (cell_of _ _ _ _ hn 2)
                    have HL := Lib.hid (hl3.below hal)
                    clear hl3 hal hn HA HPK HC1 HC3 HIN hR
                    go_wp2
                    go_roundw
                    case rel => exact ⟨_, _, _, rfl, rfl, HL.out⟩
                    case measure => (simp [RowKit.intOf] <;> omega)
                  · have z2 : ((2 : Int) ≤ (j : Int) - (k : Int)) = False := by simp; omega
                    have ews : IntKind.i64.wrap ((j : Int) - (k : Int)) = (j : Int) - (k : Int) := by simp [IntKind.wrap, IntKind.signed, IntKind.bits]; omega
                    have hl1 := HA.out.one hlt HPK.out (by rw [hR.out]; exact h2)
                    have hal := (Below.refl _ wb).alloc (Nat.le_refl _) (.cells #[.int .u8 (k : Int)] 5)
                    have hn := heap_new wb (.cells #[.int .u8 (k : Int)] 5)
                    have hcv := HC1.out wb.heap.size _ (cell_of _ _ _ _ hn 0)
                    have HL := Lib.hid (hl1.below hal)
                    clear hl1 hal hn HA HPK HC1 HC3 HIN hR
                    go_wp2
                    go_roundw
                    case rel => exact ⟨_, _, _, rfl, rfl, HL.out⟩
                    case measure => (simp [RowKit.intOf] <;> omega)
                | false =>
                  have hrn := Lib.hid (runTo_next hrt.out hd hje (by rw [left_eq, hf1, ha1]; rfl))
                  clear hrt HC1 HC3 HPK HI1
                  go_wp2
                  go_roundw
                  case rel => exact ⟨j + 1, d - 1, rfl, by omega, by omega, by omega, hrn, HA.out⟩
                  case measure => (simp [RowKit.intOf] <;> omega)
            · have zj : ((j : Int) + 1 < 256) = False := by simp; omega
              clear hA
              have hno : ¬ (j + 1 < 256 ∧ leftF F (j + 1) = true) := fun h => hje h.1
              have hR := Lib.hid (runTo_stop hrt.out hno)
              clear hrt hno
              by_cases h2 : k + 2 ≤ j
              · have z2 : ((2 : Int) ≤ (j : Int) - (k : Int)) = True := by simp; omega
                have ews : IntKind.i64.wrap ((j : Int) - (k : Int)) = (j : Int) - (k : Int) := by simp [IntKind.wrap, IntKind.signed, IntKind.bits]; omega
                have hl3 := HA.out.three hlt HPK.out (by rw [hR.out]; exact h2)
                rw [hR.out] at hl3
                have hrl := HA.out.row.lt
                have hal := (Below.refl _ wr).alloc (Nat.le_refl _) (.cells #[.int .u8 (k : Int), .int .u8 45, .int .u8 (j : Int)] 5)
                have hn := heap_new wr (.cells #[.int .u8 (k : Int), .int .u8 45, .int .u8 (j : Int)] 5)
                have hcv := HC3.out j hj256 wr.heap.size _ (cell_of _ _ _ _ hn 0) (cell_of _ _ _ _ hn 1) (cell_of _ _ _ _ hn 2)
                have HL := Lib.hid (hl3.below hal)
                clear hl3 hal hn HA HPK HC1 HC3 HIN hR
                go_wp2
                go_roundw
                case rel => exact ⟨_, _, _, rfl, rfl, HL.out⟩
                case measure => (simp [RowKit.intOf] <;> omega)
              · have z2 : ((2 : Int) ≤ (j : Int) - (k : Int)) = False := by simp; omega
                have ews : IntKind.i64.wrap ((j : Int) - (k : Int)) = (j : Int) - (k : Int) := by simp [IntKind.wrap, IntKind.signed, IntKind.bits]; omega
                have hl1 := HA.out.one hlt HPK.out (by rw [hR.out]; exact h2)
                have hal := (Below.refl _ wr).alloc (Nat.le_refl _) (.cells #[.int .u8 (k : Int)] 5)
                have hn := heap_new wr (.cells #[.int .u8 (k : Int)] 5)
                have hcv := HC1.out wr.heap.size _ (cell_of _ _ _ _ hn 0)
                have HL := Lib.hid (hl1.below hal)
                clear hl1 hal hn HA HPK HC1 HC3 HIN hR
                go_wp2
                go_roundw
                case rel => exact ⟨_, _, _, rfl, rfl, HL.out⟩
                case measure => (simp [RowKit.intOf] <;> omega)
    · obtain rfl : k = 256 := by omega
      have zk : ((256 : Int) < 256) = False := by simp
      have hO : O.data.toList = base ++ lst (leftF F) 257 0 := by
        obtain ⟨f, rfl⟩ : ∃ f, fu = f + 1 := ⟨fu - 1, by have := hA.f; omega⟩
        have h1 := hA.eq
        rw [lst, if_pos (by omega), List.append_nil] at h1
        exact h1
      have hHP := HRL.out
      rw [← hO] at hHP
      have c10 := hA.row.cell 10 (by decide)
      have c91 := hA.row.cell 91 (by decide)
      have c92 := hA.row.cell 92 (by decide)
      have HA := Lib.hid hA
      have HP := Lib.hid hHP
      have HBL := Lib.hid (show bytesL F = (bytesOf F).data.toList from rfl)
      clear hA hHP hO HRL HIN
      generalize bytesOf F = BB at HBY HBL
      cases h10 : F 10 with
      | false =>
        rw [h10] at c10
        cases h91 : F 91 with
        | false =>
          rw [h91] at c91
          cases h92 : F 92 with
          | false =>
            rw [h92] at c92
            go_wp2
            refine wp_load_row HA.out.row rfl rfl ?_
            go_wp2_with fail
            refine (HBY.out _).mono ?_
            rintro e wz ⟨rfl, hBz⟩
            have hrz := HA.out.row.below hBz HA.out.row.lt
            have c94 := hrz.cell 94 (by decide)
            have c45 := hrz.cell 45 (by decide)
            have HB := Lib.hid (HA.out.bel.trans (hBz.mono HA.out.bel.size))
            clear HA HBY hBz hrz c10 c91 c92
            by_cases hbb : BB.data.toList = [45, 94]
            · have y101 : (9223372036854775807 < O.size + 3) = False := by simp; omega
              have hbq : (BB.toList == [45, 94]) = true := by rw [ByteArray.toList_eq]; simpa using hbb
              have HBB := Lib.hid hbb
              clear hbb
              go_wp2
              go_ret
              refine ⟨congrArg (fun t : ByteArray => Ending.returned (Value.string t)) (?_ : _ = (⟨(refList F).toArray⟩ : ByteArray)), HB.out⟩
              apply Go.WideShapes.bytes_inj
              rw [HP.out]
              simp [onlyP, h10, h91, h92, HBL.out, HBB.out]
            · have hbq : (BB.toList == [45, 94]) = false := by rw [ByteArray.toList_eq]; simpa using hbb
              cases h94 : F 94 with
              | false =>
                rw [h94] at c94
                cases h45 : F 45 with
                | false =>
                  have y102 : (9223372036854775807 < O.size + 1) = False := by simp; omega
                  rw [h45] at c45
                  have HBB := Lib.hid hbb
                  clear hbb
                  go_wp2
                  go_ret
                  refine ⟨congrArg (fun t : ByteArray => Ending.returned (Value.string t)) (?_ : _ = (⟨(refList F).toArray⟩ : ByteArray)), HB.out⟩
                  apply Go.WideShapes.bytes_inj
                  rw [HP.out]
                  simp [onlyP, h10, h91, h92, h94, h45, HBL.out, HBB.out]
                | true =>
                  have y103 : (9223372036854775807 < O.size + 1) = False := by simp; omega
                  have y104 : (9223372036854775807 < O.size + 1 + 1) = False := by simp; omega
                  rw [h45] at c45
                  have HBB := Lib.hid hbb
                  clear hbb
                  go_wp2
                  go_ret
                  refine ⟨congrArg (fun t : ByteArray => Ending.returned (Value.string t)) (?_ : _ = (⟨(refList F).toArray⟩ : ByteArray)), HB.out⟩
                  apply Go.WideShapes.bytes_inj
                  rw [HP.out]
                  simp [onlyP, h10, h91, h92, h94, h45, HBL.out, HBB.out]
              | true =>
                rw [h94] at c94
                cases h45 : F 45 with
                | false =>
                  have y105 : (9223372036854775807 < O.size + 1) = False := by simp; omega
                  have y106 : (9223372036854775807 < O.size + 1 + 1) = False := by simp; omega
                  rw [h45] at c45
                  have HBB := Lib.hid hbb
                  clear hbb
                  go_wp2
                  go_ret
                  refine ⟨congrArg (fun t : ByteArray => Ending.returned (Value.string t)) (?_ : _ = (⟨(refList F).toArray⟩ : ByteArray)), HB.out⟩
                  apply Go.WideShapes.bytes_inj
                  rw [HP.out]
                  simp [onlyP, h10, h91, h92, h94, h45, HBL.out, HBB.out]
                | true =>
                  have y107 : (9223372036854775807 < O.size + 1) = False := by simp; omega
                  have y108 : (9223372036854775807 < O.size + 1 + 1) = False := by simp; omega
                  have y109 : (9223372036854775807 < O.size + 1 + 1 + 1) = False := by simp; omega
                  rw [h45] at c45
                  have HBB := Lib.hid hbb
                  clear hbb
                  go_wp2
                  go_ret
                  refine ⟨congrArg (fun t : ByteArray => Ending.returned (Value.string t)) (?_ : _ = (⟨(refList F).toArray⟩ : ByteArray)), HB.out⟩
                  apply Go.WideShapes.bytes_inj
                  rw [HP.out]
                  simp [onlyP, h10, h91, h92, h94, h45, HBL.out, HBB.out]
          | true =>
            rw [h92] at c92
            have y110 : (9223372036854775807 < O.size + 1) = False := by simp; omega
            go_wp2
            refine wp_load_row HA.out.row rfl rfl ?_
            go_wp2_with fail
            refine (HBY.out _).mono ?_
            rintro e wz ⟨rfl, hBz⟩
            have hrz := HA.out.row.below hBz HA.out.row.lt
            have c94 := hrz.cell 94 (by decide)
            have c45 := hrz.cell 45 (by decide)
            have HB := Lib.hid (HA.out.bel.trans (hBz.mono HA.out.bel.size))
            clear HA HBY hBz hrz c10 c91 c92
            by_cases hbb : BB.data.toList = [45, 94]
            · have y111 : (9223372036854775807 < O.size + 1 + 3) = False := by simp; omega
              have hbq : (BB.toList == [45, 94]) = true := by rw [ByteArray.toList_eq]; simpa using hbb
              have HBB := Lib.hid hbb
              clear hbb
              go_wp2
              go_ret
              refine ⟨congrArg (fun t : ByteArray => Ending.returned (Value.string t)) (?_ : _ = (⟨(refList F).toArray⟩ : ByteArray)), HB.out⟩
              apply Go.WideShapes.bytes_inj
              rw [HP.out]
              simp [onlyP, h10, h91, h92, HBL.out, HBB.out]
            · have hbq : (BB.toList == [45, 94]) = false := by rw [ByteArray.toList_eq]; simpa using hbb
              cases h94 : F 94 with
              | false =>
                rw [h94] at c94
                cases h45 : F 45 with
                | false =>
                  have y112 : (9223372036854775807 < O.size + 1 + 1) = False := by simp; omega
                  rw [h45] at c45
                  have HBB := Lib.hid hbb
                  clear hbb
                  go_wp2
                  go_ret
                  refine ⟨congrArg (fun t : ByteArray => Ending.returned (Value.string t)) (?_ : _ = (⟨(refList F).toArray⟩ : ByteArray)), HB.out⟩
                  apply Go.WideShapes.bytes_inj
                  rw [HP.out]
                  simp [onlyP, h10, h91, h92, h94, h45, HBL.out, HBB.out]
                | true =>
                  have y113 : (9223372036854775807 < O.size + 1 + 1) = False := by simp; omega
                  have y114 : (9223372036854775807 < O.size + 1 + 1 + 1) = False := by simp; omega
                  rw [h45] at c45
                  have HBB := Lib.hid hbb
                  clear hbb
                  go_wp2
                  go_ret
                  refine ⟨congrArg (fun t : ByteArray => Ending.returned (Value.string t)) (?_ : _ = (⟨(refList F).toArray⟩ : ByteArray)), HB.out⟩
                  apply Go.WideShapes.bytes_inj
                  rw [HP.out]
                  simp [onlyP, h10, h91, h92, h94, h45, HBL.out, HBB.out]
              | true =>
                rw [h94] at c94
                cases h45 : F 45 with
                | false =>
                  have y115 : (9223372036854775807 < O.size + 1 + 1) = False := by simp; omega
                  have y116 : (9223372036854775807 < O.size + 1 + 1 + 1) = False := by simp; omega
                  rw [h45] at c45
                  have HBB := Lib.hid hbb
                  clear hbb
                  go_wp2
                  go_ret
                  refine ⟨congrArg (fun t : ByteArray => Ending.returned (Value.string t)) (?_ : _ = (⟨(refList F).toArray⟩ : ByteArray)), HB.out⟩
                  apply Go.WideShapes.bytes_inj
                  rw [HP.out]
                  simp [onlyP, h10, h91, h92, h94, h45, HBL.out, HBB.out]
                | true =>
                  have y117 : (9223372036854775807 < O.size + 1 + 1) = False := by simp; omega
                  have y118 : (9223372036854775807 < O.size + 1 + 1 + 1) = False := by simp; omega
                  have y119 : (9223372036854775807 < O.size + 1 + 1 + 1 + 1) = False := by simp; omega
                  rw [h45] at c45
                  have HBB := Lib.hid hbb
                  clear hbb
                  go_wp2
                  go_ret
                  refine ⟨congrArg (fun t : ByteArray => Ending.returned (Value.string t)) (?_ : _ = (⟨(refList F).toArray⟩ : ByteArray)), HB.out⟩
                  apply Go.WideShapes.bytes_inj
                  rw [HP.out]
                  simp [onlyP, h10, h91, h92, h94, h45, HBL.out, HBB.out]
        | true =>
          rw [h91] at c91
          cases h92 : F 92 with
          | false =>
            rw [h92] at c92
            have y120 : (9223372036854775807 < O.size + 1) = False := by simp; omega
            go_wp2
            refine wp_load_row HA.out.row rfl rfl ?_
            go_wp2_with fail
            refine (HBY.out _).mono ?_
            rintro e wz ⟨rfl, hBz⟩
            have hrz := HA.out.row.below hBz HA.out.row.lt
            have c94 := hrz.cell 94 (by decide)
            have c45 := hrz.cell 45 (by decide)
            have HB := Lib.hid (HA.out.bel.trans (hBz.mono HA.out.bel.size))
            clear HA HBY hBz hrz c10 c91 c92
            by_cases hbb : BB.data.toList = [45, 94]
            · have y121 : (9223372036854775807 < O.size + 1 + 3) = False := by simp; omega
              have hbq : (BB.toList == [45, 94]) = true := by rw [ByteArray.toList_eq]; simpa using hbb
              have HBB := Lib.hid hbb
              clear hbb
              go_wp2
              go_ret
              refine ⟨congrArg (fun t : ByteArray => Ending.returned (Value.string t)) (?_ : _ = (⟨(refList F).toArray⟩ : ByteArray)), HB.out⟩
              apply Go.WideShapes.bytes_inj
              rw [HP.out]
              simp [onlyP, h10, h91, h92, HBL.out, HBB.out]
            · have hbq : (BB.toList == [45, 94]) = false := by rw [ByteArray.toList_eq]; simpa using hbb
              cases h94 : F 94 with
              | false =>
                rw [h94] at c94
                cases h45 : F 45 with
                | false =>
                  have y122 : (9223372036854775807 < O.size + 1 + 1) = False := by simp; omega
                  rw [h45] at c45
                  have HBB := Lib.hid hbb
                  clear hbb
                  go_wp2
                  go_ret
                  refine ⟨congrArg (fun t : ByteArray => Ending.returned (Value.string t)) (?_ : _ = (⟨(refList F).toArray⟩ : ByteArray)), HB.out⟩
                  apply Go.WideShapes.bytes_inj
                  rw [HP.out]
                  simp [onlyP, h10, h91, h92, h94, h45, HBL.out, HBB.out]
                | true =>
                  have y123 : (9223372036854775807 < O.size + 1 + 1) = False := by simp; omega
                  have y124 : (9223372036854775807 < O.size + 1 + 1 + 1) = False := by simp; omega
                  rw [h45] at c45
                  have HBB := Lib.hid hbb
                  clear hbb
                  go_wp2
                  go_ret
                  refine ⟨congrArg (fun t : ByteArray => Ending.returned (Value.string t)) (?_ : _ = (⟨(refList F).toArray⟩ : ByteArray)), HB.out⟩
                  apply Go.WideShapes.bytes_inj
                  rw [HP.out]
                  simp [onlyP, h10, h91, h92, h94, h45, HBL.out, HBB.out]
              | true =>
                rw [h94] at c94
                cases h45 : F 45 with
                | false =>
                  have y125 : (9223372036854775807 < O.size + 1 + 1) = False := by simp; omega
                  have y126 : (9223372036854775807 < O.size + 1 + 1 + 1) = False := by simp; omega
                  rw [h45] at c45
                  have HBB := Lib.hid hbb
                  clear hbb
                  go_wp2
                  go_ret
                  refine ⟨congrArg (fun t : ByteArray => Ending.returned (Value.string t)) (?_ : _ = (⟨(refList F).toArray⟩ : ByteArray)), HB.out⟩
                  apply Go.WideShapes.bytes_inj
                  rw [HP.out]
                  simp [onlyP, h10, h91, h92, h94, h45, HBL.out, HBB.out]
                | true =>
                  have y127 : (9223372036854775807 < O.size + 1 + 1) = False := by simp; omega
                  have y128 : (9223372036854775807 < O.size + 1 + 1 + 1) = False := by simp; omega
                  have y129 : (9223372036854775807 < O.size + 1 + 1 + 1 + 1) = False := by simp; omega
                  rw [h45] at c45
                  have HBB := Lib.hid hbb
                  clear hbb
                  go_wp2
                  go_ret
                  refine ⟨congrArg (fun t : ByteArray => Ending.returned (Value.string t)) (?_ : _ = (⟨(refList F).toArray⟩ : ByteArray)), HB.out⟩
                  apply Go.WideShapes.bytes_inj
                  rw [HP.out]
                  simp [onlyP, h10, h91, h92, h94, h45, HBL.out, HBB.out]
          | true =>
            rw [h92] at c92
            have y130 : (9223372036854775807 < O.size + 1) = False := by simp; omega
            have y131 : (9223372036854775807 < O.size + 1 + 1) = False := by simp; omega
            go_wp2
            refine wp_load_row HA.out.row rfl rfl ?_
            go_wp2_with fail
            refine (HBY.out _).mono ?_
            rintro e wz ⟨rfl, hBz⟩
            have hrz := HA.out.row.below hBz HA.out.row.lt
            have c94 := hrz.cell 94 (by decide)
            have c45 := hrz.cell 45 (by decide)
            have HB := Lib.hid (HA.out.bel.trans (hBz.mono HA.out.bel.size))
            clear HA HBY hBz hrz c10 c91 c92
            by_cases hbb : BB.data.toList = [45, 94]
            · have y132 : (9223372036854775807 < O.size + 1 + 1 + 3) = False := by simp; omega
              have hbq : (BB.toList == [45, 94]) = true := by rw [ByteArray.toList_eq]; simpa using hbb
              have HBB := Lib.hid hbb
              clear hbb
              go_wp2
              go_ret
              refine ⟨congrArg (fun t : ByteArray => Ending.returned (Value.string t)) (?_ : _ = (⟨(refList F).toArray⟩ : ByteArray)), HB.out⟩
              apply Go.WideShapes.bytes_inj
              rw [HP.out]
              simp [onlyP, h10, h91, h92, HBL.out, HBB.out]
            · have hbq : (BB.toList == [45, 94]) = false := by rw [ByteArray.toList_eq]; simpa using hbb
              cases h94 : F 94 with
              | false =>
                rw [h94] at c94
                cases h45 : F 45 with
                | false =>
                  have y133 : (9223372036854775807 < O.size + 1 + 1 + 1) = False := by simp; omega
                  rw [h45] at c45
                  have HBB := Lib.hid hbb
                  clear hbb
                  go_wp2
                  go_ret
                  refine ⟨congrArg (fun t : ByteArray => Ending.returned (Value.string t)) (?_ : _ = (⟨(refList F).toArray⟩ : ByteArray)), HB.out⟩
                  apply Go.WideShapes.bytes_inj
                  rw [HP.out]
                  simp [onlyP, h10, h91, h92, h94, h45, HBL.out, HBB.out]
                | true =>
                  have y134 : (9223372036854775807 < O.size + 1 + 1 + 1) = False := by simp; omega
                  have y135 : (9223372036854775807 < O.size + 1 + 1 + 1 + 1) = False := by simp; omega
                  rw [h45] at c45
                  have HBB := Lib.hid hbb
                  clear hbb
                  go_wp2
                  go_ret
                  refine ⟨congrArg (fun t : ByteArray => Ending.returned (Value.string t)) (?_ : _ = (⟨(refList F).toArray⟩ : ByteArray)), HB.out⟩
                  apply Go.WideShapes.bytes_inj
                  rw [HP.out]
                  simp [onlyP, h10, h91, h92, h94, h45, HBL.out, HBB.out]
              | true =>
                rw [h94] at c94
                cases h45 : F 45 with
                | false =>
                  have y136 : (9223372036854775807 < O.size + 1 + 1 + 1) = False := by simp; omega
                  have y137 : (9223372036854775807 < O.size + 1 + 1 + 1 + 1) = False := by simp; omega
                  rw [h45] at c45
                  have HBB := Lib.hid hbb
                  clear hbb
                  go_wp2
                  go_ret
                  refine ⟨congrArg (fun t : ByteArray => Ending.returned (Value.string t)) (?_ : _ = (⟨(refList F).toArray⟩ : ByteArray)), HB.out⟩
                  apply Go.WideShapes.bytes_inj
                  rw [HP.out]
                  simp [onlyP, h10, h91, h92, h94, h45, HBL.out, HBB.out]
                | true =>
                  have y138 : (9223372036854775807 < O.size + 1 + 1 + 1) = False := by simp; omega
                  have y139 : (9223372036854775807 < O.size + 1 + 1 + 1 + 1) = False := by simp; omega
                  have y140 : (9223372036854775807 < O.size + 1 + 1 + 1 + 1 + 1) = False := by simp; omega
                  rw [h45] at c45
                  have HBB := Lib.hid hbb
                  clear hbb
                  go_wp2
                  go_ret
                  refine ⟨congrArg (fun t : ByteArray => Ending.returned (Value.string t)) (?_ : _ = (⟨(refList F).toArray⟩ : ByteArray)), HB.out⟩
                  apply Go.WideShapes.bytes_inj
                  rw [HP.out]
                  simp [onlyP, h10, h91, h92, h94, h45, HBL.out, HBB.out]
      | true =>
        rw [h10] at c10
        cases h91 : F 91 with
        | false =>
          rw [h91] at c91
          cases h92 : F 92 with
          | false =>
            rw [h92] at c92
            have y141 : (9223372036854775807 < O.size + 2) = False := by simp; omega
            go_wp2
            refine wp_load_row HA.out.row rfl rfl ?_
            go_wp2_with fail
            refine (HBY.out _).mono ?_
            rintro e wz ⟨rfl, hBz⟩
            have hrz := HA.out.row.below hBz HA.out.row.lt
            have c94 := hrz.cell 94 (by decide)
            have c45 := hrz.cell 45 (by decide)
            have HB := Lib.hid (HA.out.bel.trans (hBz.mono HA.out.bel.size))
            clear HA HBY hBz hrz c10 c91 c92
            by_cases hbb : BB.data.toList = [45, 94]
            · have y142 : (9223372036854775807 < O.size + 2 + 3) = False := by simp; omega
              have hbq : (BB.toList == [45, 94]) = true := by rw [ByteArray.toList_eq]; simpa using hbb
              have HBB := Lib.hid hbb
              clear hbb
              go_wp2
              go_ret
              refine ⟨congrArg (fun t : ByteArray => Ending.returned (Value.string t)) (?_ : _ = (⟨(refList F).toArray⟩ : ByteArray)), HB.out⟩
              apply Go.WideShapes.bytes_inj
              rw [HP.out]
              simp [onlyP, h10, h91, h92, HBL.out, HBB.out]
            · have hbq : (BB.toList == [45, 94]) = false := by rw [ByteArray.toList_eq]; simpa using hbb
              cases h94 : F 94 with
              | false =>
                rw [h94] at c94
                cases h45 : F 45 with
                | false =>
                  have y143 : (9223372036854775807 < O.size + 2 + 1) = False := by simp; omega
                  rw [h45] at c45
                  have HBB := Lib.hid hbb
                  clear hbb
                  go_wp2
                  go_ret
                  refine ⟨congrArg (fun t : ByteArray => Ending.returned (Value.string t)) (?_ : _ = (⟨(refList F).toArray⟩ : ByteArray)), HB.out⟩
                  apply Go.WideShapes.bytes_inj
                  rw [HP.out]
                  simp [onlyP, h10, h91, h92, h94, h45, HBL.out, HBB.out]
                | true =>
                  have y144 : (9223372036854775807 < O.size + 2 + 1) = False := by simp; omega
                  have y145 : (9223372036854775807 < O.size + 2 + 1 + 1) = False := by simp; omega
                  rw [h45] at c45
                  have HBB := Lib.hid hbb
                  clear hbb
                  go_wp2
                  go_ret
                  refine ⟨congrArg (fun t : ByteArray => Ending.returned (Value.string t)) (?_ : _ = (⟨(refList F).toArray⟩ : ByteArray)), HB.out⟩
                  apply Go.WideShapes.bytes_inj
                  rw [HP.out]
                  simp [onlyP, h10, h91, h92, h94, h45, HBL.out, HBB.out]
              | true =>
                rw [h94] at c94
                cases h45 : F 45 with
                | false =>
                  have y146 : (9223372036854775807 < O.size + 2 + 1) = False := by simp; omega
                  have y147 : (9223372036854775807 < O.size + 2 + 1 + 1) = False := by simp; omega
                  rw [h45] at c45
                  have HBB := Lib.hid hbb
                  clear hbb
                  go_wp2
                  go_ret
                  refine ⟨congrArg (fun t : ByteArray => Ending.returned (Value.string t)) (?_ : _ = (⟨(refList F).toArray⟩ : ByteArray)), HB.out⟩
                  apply Go.WideShapes.bytes_inj
                  rw [HP.out]
                  simp [onlyP, h10, h91, h92, h94, h45, HBL.out, HBB.out]
                | true =>
                  have y148 : (9223372036854775807 < O.size + 2 + 1) = False := by simp; omega
                  have y149 : (9223372036854775807 < O.size + 2 + 1 + 1) = False := by simp; omega
                  have y150 : (9223372036854775807 < O.size + 2 + 1 + 1 + 1) = False := by simp; omega
                  rw [h45] at c45
                  have HBB := Lib.hid hbb
                  clear hbb
                  go_wp2
                  go_ret
                  refine ⟨congrArg (fun t : ByteArray => Ending.returned (Value.string t)) (?_ : _ = (⟨(refList F).toArray⟩ : ByteArray)), HB.out⟩
                  apply Go.WideShapes.bytes_inj
                  rw [HP.out]
                  simp [onlyP, h10, h91, h92, h94, h45, HBL.out, HBB.out]
          | true =>
            rw [h92] at c92
            have y151 : (9223372036854775807 < O.size + 2) = False := by simp; omega
            have y152 : (9223372036854775807 < O.size + 2 + 1) = False := by simp; omega
            go_wp2
            refine wp_load_row HA.out.row rfl rfl ?_
            go_wp2_with fail
            refine (HBY.out _).mono ?_
            rintro e wz ⟨rfl, hBz⟩
            have hrz := HA.out.row.below hBz HA.out.row.lt
            have c94 := hrz.cell 94 (by decide)
            have c45 := hrz.cell 45 (by decide)
            have HB := Lib.hid (HA.out.bel.trans (hBz.mono HA.out.bel.size))
            clear HA HBY hBz hrz c10 c91 c92
            by_cases hbb : BB.data.toList = [45, 94]
            · have y153 : (9223372036854775807 < O.size + 2 + 1 + 3) = False := by simp; omega
              have hbq : (BB.toList == [45, 94]) = true := by rw [ByteArray.toList_eq]; simpa using hbb
              have HBB := Lib.hid hbb
              clear hbb
              go_wp2
              go_ret
              refine ⟨congrArg (fun t : ByteArray => Ending.returned (Value.string t)) (?_ : _ = (⟨(refList F).toArray⟩ : ByteArray)), HB.out⟩
              apply Go.WideShapes.bytes_inj
              rw [HP.out]
              simp [onlyP, h10, h91, h92, HBL.out, HBB.out]
            · have hbq : (BB.toList == [45, 94]) = false := by rw [ByteArray.toList_eq]; simpa using hbb
              cases h94 : F 94 with
              | false =>
                rw [h94] at c94
                cases h45 : F 45 with
                | false =>
                  have y154 : (9223372036854775807 < O.size + 2 + 1 + 1) = False := by simp; omega
                  rw [h45] at c45
                  have HBB := Lib.hid hbb
                  clear hbb
                  go_wp2
                  go_ret
                  refine ⟨congrArg (fun t : ByteArray => Ending.returned (Value.string t)) (?_ : _ = (⟨(refList F).toArray⟩ : ByteArray)), HB.out⟩
                  apply Go.WideShapes.bytes_inj
                  rw [HP.out]
                  simp [onlyP, h10, h91, h92, h94, h45, HBL.out, HBB.out]
                | true =>
                  have y155 : (9223372036854775807 < O.size + 2 + 1 + 1) = False := by simp; omega
                  have y156 : (9223372036854775807 < O.size + 2 + 1 + 1 + 1) = False := by simp; omega
                  rw [h45] at c45
                  have HBB := Lib.hid hbb
                  clear hbb
                  go_wp2
                  go_ret
                  refine ⟨congrArg (fun t : ByteArray => Ending.returned (Value.string t)) (?_ : _ = (⟨(refList F).toArray⟩ : ByteArray)), HB.out⟩
                  apply Go.WideShapes.bytes_inj
                  rw [HP.out]
                  simp [onlyP, h10, h91, h92, h94, h45, HBL.out, HBB.out]
              | true =>
                rw [h94] at c94
                cases h45 : F 45 with
                | false =>
                  have y157 : (9223372036854775807 < O.size + 2 + 1 + 1) = False := by simp; omega
                  have y158 : (9223372036854775807 < O.size + 2 + 1 + 1 + 1) = False := by simp; omega
                  rw [h45] at c45
                  have HBB := Lib.hid hbb
                  clear hbb
                  go_wp2
                  go_ret
                  refine ⟨congrArg (fun t : ByteArray => Ending.returned (Value.string t)) (?_ : _ = (⟨(refList F).toArray⟩ : ByteArray)), HB.out⟩
                  apply Go.WideShapes.bytes_inj
                  rw [HP.out]
                  simp [onlyP, h10, h91, h92, h94, h45, HBL.out, HBB.out]
                | true =>
                  have y159 : (9223372036854775807 < O.size + 2 + 1 + 1) = False := by simp; omega
                  have y160 : (9223372036854775807 < O.size + 2 + 1 + 1 + 1) = False := by simp; omega
                  have y161 : (9223372036854775807 < O.size + 2 + 1 + 1 + 1 + 1) = False := by simp; omega
                  rw [h45] at c45
                  have HBB := Lib.hid hbb
                  clear hbb
                  go_wp2
                  go_ret
                  refine ⟨congrArg (fun t : ByteArray => Ending.returned (Value.string t)) (?_ : _ = (⟨(refList F).toArray⟩ : ByteArray)), HB.out⟩
                  apply Go.WideShapes.bytes_inj
                  rw [HP.out]
                  simp [onlyP, h10, h91, h92, h94, h45, HBL.out, HBB.out]
        | true =>
          rw [h91] at c91
          cases h92 : F 92 with
          | false =>
            rw [h92] at c92
            have y162 : (9223372036854775807 < O.size + 2) = False := by simp; omega
            have y163 : (9223372036854775807 < O.size + 2 + 1) = False := by simp; omega
            go_wp2
            refine wp_load_row HA.out.row rfl rfl ?_
            go_wp2_with fail
            refine (HBY.out _).mono ?_
            rintro e wz ⟨rfl, hBz⟩
            have hrz := HA.out.row.below hBz HA.out.row.lt
            have c94 := hrz.cell 94 (by decide)
            have c45 := hrz.cell 45 (by decide)
            have HB := Lib.hid (HA.out.bel.trans (hBz.mono HA.out.bel.size))
            clear HA HBY hBz hrz c10 c91 c92
            by_cases hbb : BB.data.toList = [45, 94]
            · have y164 : (9223372036854775807 < O.size + 2 + 1 + 3) = False := by simp; omega
              have hbq : (BB.toList == [45, 94]) = true := by rw [ByteArray.toList_eq]; simpa using hbb
              have HBB := Lib.hid hbb
              clear hbb
              go_wp2
              go_ret
              refine ⟨congrArg (fun t : ByteArray => Ending.returned (Value.string t)) (?_ : _ = (⟨(refList F).toArray⟩ : ByteArray)), HB.out⟩
              apply Go.WideShapes.bytes_inj
              rw [HP.out]
              simp [onlyP, h10, h91, h92, HBL.out, HBB.out]
            · have hbq : (BB.toList == [45, 94]) = false := by rw [ByteArray.toList_eq]; simpa using hbb
              cases h94 : F 94 with
              | false =>
                rw [h94] at c94
                cases h45 : F 45 with
                | false =>
                  have y165 : (9223372036854775807 < O.size + 2 + 1 + 1) = False := by simp; omega
                  rw [h45] at c45
                  have HBB := Lib.hid hbb
                  clear hbb
                  go_wp2
                  go_ret
                  refine ⟨congrArg (fun t : ByteArray => Ending.returned (Value.string t)) (?_ : _ = (⟨(refList F).toArray⟩ : ByteArray)), HB.out⟩
                  apply Go.WideShapes.bytes_inj
                  rw [HP.out]
                  simp [onlyP, h10, h91, h92, h94, h45, HBL.out, HBB.out]
                | true =>
                  have y166 : (9223372036854775807 < O.size + 2 + 1 + 1) = False := by simp; omega
                  have y167 : (9223372036854775807 < O.size + 2 + 1 + 1 + 1) = False := by simp; omega
                  rw [h45] at c45
                  have HBB := Lib.hid hbb
                  clear hbb
                  go_wp2
                  go_ret
                  refine ⟨congrArg (fun t : ByteArray => Ending.returned (Value.string t)) (?_ : _ = (⟨(refList F).toArray⟩ : ByteArray)), HB.out⟩
                  apply Go.WideShapes.bytes_inj
                  rw [HP.out]
                  simp [onlyP, h10, h91, h92, h94, h45, HBL.out, HBB.out]
              | true =>
                rw [h94] at c94
                cases h45 : F 45 with
                | false =>
                  have y168 : (9223372036854775807 < O.size + 2 + 1 + 1) = False := by simp; omega
                  have y169 : (9223372036854775807 < O.size + 2 + 1 + 1 + 1) = False := by simp; omega
                  rw [h45] at c45
                  have HBB := Lib.hid hbb
                  clear hbb
                  go_wp2
                  go_ret
                  refine ⟨congrArg (fun t : ByteArray => Ending.returned (Value.string t)) (?_ : _ = (⟨(refList F).toArray⟩ : ByteArray)), HB.out⟩
                  apply Go.WideShapes.bytes_inj
                  rw [HP.out]
                  simp [onlyP, h10, h91, h92, h94, h45, HBL.out, HBB.out]
                | true =>
                  have y170 : (9223372036854775807 < O.size + 2 + 1 + 1) = False := by simp; omega
                  have y171 : (9223372036854775807 < O.size + 2 + 1 + 1 + 1) = False := by simp; omega
                  have y172 : (9223372036854775807 < O.size + 2 + 1 + 1 + 1 + 1) = False := by simp; omega
                  rw [h45] at c45
                  have HBB := Lib.hid hbb
                  clear hbb
                  go_wp2
                  go_ret
                  refine ⟨congrArg (fun t : ByteArray => Ending.returned (Value.string t)) (?_ : _ = (⟨(refList F).toArray⟩ : ByteArray)), HB.out⟩
                  apply Go.WideShapes.bytes_inj
                  rw [HP.out]
                  simp [onlyP, h10, h91, h92, h94, h45, HBL.out, HBB.out]
          | true =>
            rw [h92] at c92
            have y173 : (9223372036854775807 < O.size + 2) = False := by simp; omega
            have y174 : (9223372036854775807 < O.size + 2 + 1) = False := by simp; omega
            have y175 : (9223372036854775807 < O.size + 2 + 1 + 1) = False := by simp; omega
            go_wp2
            refine wp_load_row HA.out.row rfl rfl ?_
            go_wp2_with fail
            refine (HBY.out _).mono ?_
            rintro e wz ⟨rfl, hBz⟩
            have hrz := HA.out.row.below hBz HA.out.row.lt
            have c94 := hrz.cell 94 (by decide)
            have c45 := hrz.cell 45 (by decide)
            have HB := Lib.hid (HA.out.bel.trans (hBz.mono HA.out.bel.size))
            clear HA HBY hBz hrz c10 c91 c92
            by_cases hbb : BB.data.toList = [45, 94]
            · have y176 : (9223372036854775807 < O.size + 2 + 1 + 1 + 3) = False := by simp; omega
              have hbq : (BB.toList == [45, 94]) = true := by rw [ByteArray.toList_eq]; simpa using hbb
              have HBB := Lib.hid hbb
              clear hbb
              go_wp2
              go_ret
              refine ⟨congrArg (fun t : ByteArray => Ending.returned (Value.string t)) (?_ : _ = (⟨(refList F).toArray⟩ : ByteArray)), HB.out⟩
              apply Go.WideShapes.bytes_inj
              rw [HP.out]
              simp [onlyP, h10, h91, h92, HBL.out, HBB.out]
            · have hbq : (BB.toList == [45, 94]) = false := by rw [ByteArray.toList_eq]; simpa using hbb
              cases h94 : F 94 with
              | false =>
                rw [h94] at c94
                cases h45 : F 45 with
                | false =>
                  have y177 : (9223372036854775807 < O.size + 2 + 1 + 1 + 1) = False := by simp; omega
                  rw [h45] at c45
                  have HBB := Lib.hid hbb
                  clear hbb
                  go_wp2
                  go_ret
                  refine ⟨congrArg (fun t : ByteArray => Ending.returned (Value.string t)) (?_ : _ = (⟨(refList F).toArray⟩ : ByteArray)), HB.out⟩
                  apply Go.WideShapes.bytes_inj
                  rw [HP.out]
                  simp [onlyP, h10, h91, h92, h94, h45, HBL.out, HBB.out]
                | true =>
                  have y178 : (9223372036854775807 < O.size + 2 + 1 + 1 + 1) = False := by simp; omega
                  have y179 : (9223372036854775807 < O.size + 2 + 1 + 1 + 1 + 1) = False := by simp; omega
                  rw [h45] at c45
                  have HBB := Lib.hid hbb
                  clear hbb
                  go_wp2
                  go_ret
                  refine ⟨congrArg (fun t : ByteArray => Ending.returned (Value.string t)) (?_ : _ = (⟨(refList F).toArray⟩ : ByteArray)), HB.out⟩
                  apply Go.WideShapes.bytes_inj
                  rw [HP.out]
                  simp [onlyP, h10, h91, h92, h94, h45, HBL.out, HBB.out]
              | true =>
                rw [h94] at c94
                cases h45 : F 45 with
                | false =>
                  have y180 : (9223372036854775807 < O.size + 2 + 1 + 1 + 1) = False := by simp; omega
                  have y181 : (9223372036854775807 < O.size + 2 + 1 + 1 + 1 + 1) = False := by simp; omega
                  rw [h45] at c45
                  have HBB := Lib.hid hbb
                  clear hbb
                  go_wp2
                  go_ret
                  refine ⟨congrArg (fun t : ByteArray => Ending.returned (Value.string t)) (?_ : _ = (⟨(refList F).toArray⟩ : ByteArray)), HB.out⟩
                  apply Go.WideShapes.bytes_inj
                  rw [HP.out]
                  simp [onlyP, h10, h91, h92, h94, h45, HBL.out, HBB.out]
                | true =>
                  have y182 : (9223372036854775807 < O.size + 2 + 1 + 1 + 1) = False := by simp; omega
                  have y183 : (9223372036854775807 < O.size + 2 + 1 + 1 + 1 + 1) = False := by simp; omega
                  have y184 : (9223372036854775807 < O.size + 2 + 1 + 1 + 1 + 1 + 1) = False := by simp; omega
                  rw [h45] at c45
                  have HBB := Lib.hid hbb
                  clear hbb
                  go_wp2
                  go_ret
                  refine ⟨congrArg (fun t : ByteArray => Ending.returned (Value.string t)) (?_ : _ = (⟨(refList F).toArray⟩ : ByteArray)), HB.out⟩
                  apply Go.WideShapes.bytes_inj
                  rw [HP.out]
                  simp [onlyP, h10, h91, h92, h94, h45, HBL.out, HBB.out]

end Go.Proofs.YthbldjiibgnfmaaGreatDoor
