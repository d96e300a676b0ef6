/- The reference's Bracket: the walk. -/
import Derived.Test.YtkcbknfhckomcaaGreatDoorYSetMn
import Derived.Test.YtkcbknfhckomcaaGreatDoorYBuC
import Derived.Test.YtkcbknfhckomcaaGreatDoorYBuG
import Derived.Deep.DeepCutAuto
import Derived.Deep.LoopGhost
set_option linter.unusedVariables false
set_option linter.unusedSimpArgs false
set_option maxRecDepth 100000
set_option maxHeartbeats 40000000
namespace Go.Proofs.YtkcbknfhckomcaaGreatDoor
open Go.RowKit Go.Lib
structure QAt (w : World) (F : Nat → Bool) (wr : World) : Prop where
 r0 : Row wr w.heap.size (fun _ => false)
 r1 : Row wr (w.heap.size + 1) (fun _ => false)
 r2 : Row wr (w.heap.size + 1 + 1) F
 bel : Below w.heap.size w wr
theorem QAt.below {w wr w' : World} {F : Nat → Bool} (h : QAt w F wr) (hB : Below wr.heap.size wr w') : QAt w F w' :=
 ⟨h.r0.below hB h.r0.lt, h.r1.below hB h.r1.lt, h.r2.below hB h.r2.lt, h.bel.trans (hB.mono h.bel.size)⟩
theorem rbracket_go (s : List UInt8) (hs : s.length ≤ 100000) (w : World) :
  Calls Tryz.prog 75 #[.string ⟨s.toArray⟩] w fun e w' => BkOut (brkR s) e ∧ Below w.heap.size w w' := by
 have hsz : (⟨s.toArray⟩ : ByteArray).size = s.length := by simp [ByteArray.size]
 obtain ⟨hz, hsz2⟩ := zero_of_info (P := Tryz.prog) info27
 obtain ⟨R, hR⟩ : ∃ R, R = brkR s := ⟨_, rfl⟩
 rw [← hR]
 have HR := Lib.hid hR
 clear hR
 have r0 : Row ((w.alloc (.cells (barr fun _ => false) 66)).alloc (.cells (barr fun _ => false) 66)) w.heap.size (fun _ => false) := (Row.new w _).alloc _
 have r1 : Row ((w.alloc (.cells (barr fun _ => false) 66)).alloc (.cells (barr fun _ => false) 66)) (w.heap.size + 1) (fun _ => false) := by
  have := Row.new (w.alloc (.cells (barr fun _ => false) 66)) (fun _ => false)
  rwa [World.size_alloc] at this
 have b1 : Below w.heap.size w ((w.alloc (.cells (barr fun _ => false) 66)).alloc (.cells (barr fun _ => false) 66)) := ((Below.refl _ w).alloc (Nat.le_refl _) _).alloc (by simp) _
 have hst0 := store_fresh w
 obtain ⟨W, hW⟩ : ∃ W, W = (w.alloc (.cells (barr fun _ => false) 66)).alloc (.cells (barr fun _ => false) 66) := ⟨_, rfl⟩
 have hsW : W.heap.size = w.heap.size + 1 + 1 := by rw [hW, World.size_alloc, World.size_alloc]
 rw [← hW] at r0 r1 b1
 have HW := Lib.hid hW
 have R0 := Lib.hid r0
 have R1 := Lib.hid r1
 have B1 := Lib.hid b1
 clear r0 r1 b1 hW
 cases h0 : s[0]? with
 | none =>
  have hl : s.length = 0 := by
   rw [List.getElem?_eq_none_iff] at h0
   omega
  have hR : Hid (R = none) := Lib.hid (by rw [HR.out]; unfold brkR; rw [ah_one, h0]; rfl)
  have g0 : ((s.length : Int) == 0) = true := by rw [hl]; rfl
  clear HR h0
  go_enter Tryz.func75, Tryz.ntmps75
  go_wp2_with fail
  rw [← HW.out]
  clear HW hst0
  have R0 := R0.out; have R1 := R1.out; have B1 := B1.out
  go_wp2_with fail
  refine wp_load_row R1 rfl rfl ?_
  have S0 := Row.storeCells R0
  go_wp2
  have q := (Row.put R0 (fun _ => false)).load
  refine bodyPost_ret (v := .tuple #[.agg (barr fun _ => false), .int .i64 0, .int .i64 42]) (by simp [results, Tryz.results75, asAddr, Result.andThen, q]) rfl ⟨BkOut.no (hR.out), Below.setRow B1 (Nat.le_refl _) _⟩
 | some c =>
  have hl := (List.getElem?_eq_some_iff.1 h0).1
  have g0 : ((s.length : Int) == 0) = false := by rw [beq_eq_false_iff_ne]; omega
  have x0 : ∀ W : World, (Instr.index 9 (.string ⟨s.toArray⟩) (.int .i64 0)).run Tryz.prog W = .ok (.int .u8 (c.toNat : Int)) W := fun W => ixm_c s 0 c h0 W
  by_cases k91 : c = 91
  ·subst k91
   have a0 : ah s 0 [91] = true := by rw [ah_one, h0]; rfl
   have g91 : (((91 : UInt8).toNat : Int) != 91) = false := rfl
   obtain ⟨nt, hnt⟩ : ∃ b, b = ah s 1 [94] := ⟨_, rfl⟩
   obtain ⟨i0, hi0⟩ : ∃ i, i = sk s 1 [94] := ⟨_, rfl⟩
   have hi0l : i0 ≤ s.length := by rw [hi0]; exact sk_le (by omega)
   obtain ⟨TOT, hTOT⟩ : ∃ T, T = restF s (s.length + 2) i0 (fun _ => false) true := ⟨_, rfl⟩
   have hRT : R = brkEnd nt TOT := by rw [HR.out, hTOT, hi0, hnt]; exact brkR_end a0
   have HRT := Lib.hid hRT
   have HNT := Lib.hid hnt
   have HI0 := Lib.hid hi0
   have HTOT := Lib.hid hTOT
   have HNO : Hid (TOT = none → R = none) := Lib.hid (fun h => by rw [HRT.out, h]; rfl)
   clear hRT hnt hi0 hTOT HR h0 a0
   go_enter Tryz.func75, Tryz.ntmps75
   go_upto_region 6 with fail
   rw [← HW.out]
   clear HW hst0
   go_cut [39] (fun v wx => v = .bool nt ∧ wx = W)
   case first =>
    cases h1 : s[1]? with
    | none =>
     have hl1 : s.length ≤ 1 := by rw [List.getElem?_eq_none_iff] at h1; exact h1
     have g1 : ((1 : Int) < s.length) = False := by simp; omega
     obtain rfl : nt = false := HNT.out.trans (by rw [ah_one, h1]; rfl)
     clear h1 HNT HI0 HRT HTOT HNO
     go_wp2_with fail
     go_meet
     exact ⟨rfl, rfl⟩
    | some d =>
     have hl1 := (List.getElem?_eq_some_iff.1 h1).1
     have g1 : ((1 : Int) < s.length) = True := by simp; omega
     have x1 : ∀ W : World, (Instr.index 9 (.string ⟨s.toArray⟩) (.int .i64 1)).run Tryz.prog W = .ok (.int .u8 (d.toNat : Int)) W := fun W => ixm_c s 1 d h1 W
     by_cases k94 : d = 94
     ·subst k94
      obtain rfl : nt = true := HNT.out.trans (by rw [ah_one, h1]; rfl)
      clear h1 HNT HI0 HRT HTOT HNO
      go_wp2_with fail
      go_meet
      exact ⟨rfl, rfl⟩
     ·have c94 : ((d.toNat : Int) == 94) = false := u8_ne (d := 94) k94
      obtain rfl : nt = false := HNT.out.trans (by rw [ah_one, h1]; simpa using k94)
      clear h1 HNT HI0 HRT HTOT HNO k94
      generalize d.toNat = D at *
      go_wp2_with fail
      go_meet
      exact ⟨rfl, rfl⟩
   case rest =>
    obtain ⟨rfl, rfl⟩ := hcut
    clear x0 g91 g0
    go_upto_if 39 with fail
    go_cut [6, 7] (fun iv nv wx => iv = .int .i64 (i0 : Int) ∧ nv = .bool nt ∧ wx = wc)
    case first =>
     cases nt with
     | false =>
      obtain rfl : i0 = 1 := HI0.out.trans (sk_no HNT.out.symm)
      clear HNT HI0 HRT HTOT HNO
      go_wp2_with fail
      go_meet
      exact ⟨rfl, rfl, rfl⟩
     | true =>
      obtain rfl : i0 = 2 := HI0.out.trans (sk_yes HNT.out.symm)
      clear HNT HI0 HRT HTOT HNO
      go_wp2_with fail
      go_meet
      exact ⟨rfl, rfl, rfl⟩
    case rest =>
     obtain ⟨rfl, rfl, hwc⟩ := hcut
     subst hwc
     have Z := Row.new wc (fun _ => false)
     have Zs := Z.storeCells (fun _ => false)
     rw [hsW] at Zs
     have hA0 : BkAt w s TOT i0 (fun _ => false) true ((wc.alloc (.cells (barr fun _ => false) 66)).setRow (w.heap.size + 1 + 1) (barr fun _ => false)) := by
      refine ⟨hi0l, ⟨s.length + 2, by omega, HTOT.out.symm⟩, (R0.out.alloc _).setRow_other (by omega) _, (R1.out.alloc _).setRow_other (by omega) _, ?_, Below.setRow (B1.out.alloc B1.out.size _) (by omega) _⟩
      have := Z.put (fun _ => false)
      rw [hsW] at this
      exact this
     have HA0 := Lib.hid hA0
     clear Z hA0 R0 R1 B1 HTOT HI0
     go_wp2_with fail
     clear Zs
     go_loopg [6, 9] (s.length - i0) (fun g iv fv wx => ∃ (i : Nat) (F : Nat → Bool) (first : Bool), g = s.length - i ∧ iv = .int .i64 (i : Int) ∧ fv = .bool first ∧ BkAt w s TOT i F first wx)
     case atStart => exact ⟨i0, fun _ => false, true, rfl, rfl, rfl, HA0.out⟩
     case round =>
      obtain ⟨i, F, first, rfl, rfl, rfl, hA⟩ := hrel
      have il := hA.il
      have HA := Lib.hid hA
      clear hA HA0
      obtain ⟨dn, hdn⟩ : ∃ b, b = (ah s i [93] && !first) := ⟨_, rfl⟩
      have HDN := Lib.hid hdn
      clear hdn
      go_upto_region 12 with fail
      go_cut [56] (fun v wx => v = .bool dn ∧ wx = wr)
      case first =>
       clear HA HRT HNT HNO
       by_cases hlt : i < s.length
       ·have gi : ((i : Int) < s.length) = True := by simp; omega
        obtain ⟨c, hc⟩ : ∃ c, s[i]? = some c := ⟨_, List.getElem?_eq_getElem hlt⟩
        have xi := fun W => ixm_c s i c hc W
        by_cases k93 : c = 93
        ·subst k93
         cases first with
         | true =>
          obtain rfl : dn = false := HDN.out.trans (by rw [ah_one, hc]; rfl)
          clear HDN hc
          go_wp2_with fail
          go_meet
          exact ⟨rfl, rfl⟩
         | false =>
          obtain rfl : dn = true := HDN.out.trans (by rw [ah_one, hc]; rfl)
          clear HDN hc
          go_wp2_with fail
          go_meet
          exact ⟨rfl, rfl⟩
        ·have c93 : ((c.toNat : Int) == 93) = false := u8_ne (d := 93) k93
         obtain rfl : dn = false := HDN.out.trans (by rw [ah_one, hc]; simp [k93])
         clear HDN hc k93
         generalize c.toNat = C at *
         go_wp2_with fail
         go_meet
         exact ⟨rfl, rfl⟩
       ·have gi : ((i : Int) < s.length) = False := by simp; omega
        obtain rfl : dn = false := HDN.out.trans (by rw [ah_one, List.getElem?_eq_none (by omega)]; rfl)
        clear HDN
        go_wp2_with fail
        go_meet
        exact ⟨rfl, rfl⟩
      case rest =>
       obtain ⟨rfl, hwc⟩ := hcut
       subst hwc
       cases dn with
       | true =>
        as_aux_lemma =>
         have hT := HA.out.fin HDN.out.symm
         have hRV : R = if noneIn (if nt then (fun j => !F j) else F) then none else some ((if nt then (fun j => !F j) else F), i + 1) := by rw [HRT.out, hT]; rfl
         clear hT HDN HRT HNO
         have hsz := fun f w => rszL_c f w
         have hno := fun f w => rnot_c f w
         unfold bv at hsz hno
         have HSZ := Lib.hid hsz
         have HN := Lib.hid hno
         clear hsz hno
         have ew : IntKind.i64.wrap ((i : Int) + 1) = (i : Int) + 1 := by simp [IntKind.wrap, IntKind.signed, IntKind.bits]; omega
         cases nt with
         | true =>
          obtain ⟨H, hH⟩ : ∃ H, H = fun j => !F j := ⟨_, rfl⟩
          rw [if_pos rfl, ← hH] at hRV
          have HRV := Lib.hid hRV
          have HNF := Lib.hid fun w => HN.out F w
          rw [← hH] at HNF
          clear hRV hH HN
          go_wp2_with fail
          refine wp_load_row HA.out.r2 rfl rfl ?_
          go_wp2_with fail
          refine (HNF.out _).mono ?_
          rintro e w5 ⟨rfl, hB5⟩
          have hA5 := HA.out.below hB5
          have S2 := hA5.r2.storeCells H
          have HA6 := Lib.hid (⟨hA5.r0.setRow_other (by omega) _, hA5.r1.setRow_other (by omega) _, hA5.r2.put H, Below.setRow hA5.bel (by omega) _⟩ : QAt w H (w5.setRow (w.heap.size + 1 + 1) (barr H)))
          clear hB5 hA5 HA HNF HNT
          go_wp2_with fail
          refine wp_load_row HA6.out.r2 rfl rfl ?_
          go_wp2_with fail
          refine (HSZ.out H _).mono ?_
          rintro e w7 ⟨rfl, hB7⟩
          have A7 := Lib.hid (HA6.out.below hB7)
          clear hB7 HSZ HA6
          by_cases hcn : cnt H 256 = 0
          ·have hR : Hid (R = none) := Lib.hid (by rw [HRV.out, none_yes hcn]; rfl)
           have zc : (((cnt H 256 : Nat) : Int) == 0) = true := by rw [hcn]; rfl
           clear hcn HRV
           generalize cnt H 256 = nn at *
           go_wp2_with fail
           refine wp_load_row A7.out.r1 rfl rfl ?_
           have S0 := Row.storeCells A7.out.r0
           go_wp2
           have q := (Row.put A7.out.r0 (fun _ => false)).load
           refine bodyPost_ret (v := .tuple #[.agg (barr fun _ => false), .int .i64 0, .int .i64 42]) (by simp [results, Tryz.results75, asAddr, Result.andThen, q]) rfl ⟨BkOut.no (hR.out), Below.setRow A7.out.bel (Nat.le_refl _) _⟩
          ·have hR : Hid (R = some (H, i + 1)) := Lib.hid (by rw [HRV.out, none_no hcn (fun _ _ => rfl)]; rfl)
           have zc : (((cnt H 256 : Nat) : Int) == 0) = false := by rw [beq_eq_false_iff_ne]; omega
           clear hcn HRV
           generalize cnt H 256 = nn at *
           go_wp2_with fail
           refine wp_load_row A7.out.r2 rfl rfl ?_
           have S0 := Row.storeCells A7.out.r0 H
           go_wp2
           have q := (Row.put A7.out.r0 H).load
           refine bodyPost_ret (v := .tuple #[.agg (barr H), .int .i64 ((i + 1 : Nat) : Int), .int .i64 0]) (by simp [results, Tryz.results75, asAddr, Result.andThen, q]) rfl ⟨BkOut.yes hR.out, Below.setRow A7.out.bel (Nat.le_refl _) _⟩
         | false =>
          simp only [Bool.false_eq_true, if_false] at hRV
          have HRV := Lib.hid hRV
          have HA6 := Lib.hid (⟨HA.out.r0, HA.out.r1, HA.out.r2, HA.out.bel⟩ : QAt w F wc)
          clear hRV HA HN HNT
          go_wp2_with fail
          refine wp_load_row HA6.out.r2 rfl rfl ?_
          go_wp2_with fail
          refine (HSZ.out F _).mono ?_
          rintro e w7 ⟨rfl, hB7⟩
          have A7 := Lib.hid (HA6.out.below hB7)
          clear hB7 HSZ HA6
          by_cases hcn : cnt F 256 = 0
          ·have hR : Hid (R = none) := Lib.hid (by rw [HRV.out, none_yes hcn]; rfl)
           have zc : (((cnt F 256 : Nat) : Int) == 0) = true := by rw [hcn]; rfl
           clear hcn HRV
           generalize cnt F 256 = nn at *
           go_wp2_with fail
           refine wp_load_row A7.out.r1 rfl rfl ?_
           have S0 := Row.storeCells A7.out.r0
           go_wp2
           have q := (Row.put A7.out.r0 (fun _ => false)).load
           refine bodyPost_ret (v := .tuple #[.agg (barr fun _ => false), .int .i64 0, .int .i64 42]) (by simp [results, Tryz.results75, asAddr, Result.andThen, q]) rfl ⟨BkOut.no (hR.out), Below.setRow A7.out.bel (Nat.le_refl _) _⟩
          ·have hR : Hid (R = some (F, i + 1)) := Lib.hid (by rw [HRV.out, none_no hcn (fun _ _ => rfl)]; rfl)
           have zc : (((cnt F 256 : Nat) : Int) == 0) = false := by rw [beq_eq_false_iff_ne]; omega
           clear hcn HRV
           generalize cnt F 256 = nn at *
           go_wp2_with fail
           refine wp_load_row A7.out.r2 rfl rfl ?_
           have S0 := Row.storeCells A7.out.r0 F
           go_wp2
           have q := (Row.put A7.out.r0 F).load
           refine bodyPost_ret (v := .tuple #[.agg (barr F), .int .i64 ((i + 1 : Nat) : Int), .int .i64 0]) (by simp [results, Tryz.results75, asAddr, Result.andThen, q]) rfl ⟨BkOut.yes hR.out, Below.setRow A7.out.bel (Nat.le_refl _) _⟩
       | false =>
        as_aux_lemma =>
         clear HRT HNT
         have ew1 : IntKind.i64.wrap ((i : Int) + 1) = (i : Int) + 1 := by simp [IntKind.wrap, IntKind.signed, IntKind.bits]; omega
         have ew2 : IntKind.i64.wrap ((i : Int) + 2) = (i : Int) + 2 := by simp [IntKind.wrap, IntKind.signed, IntKind.bits]; omega
         obtain ⟨ac, hac⟩ : ∃ b, b = ah s i [91, 58] := ⟨_, rfl⟩
         have HAC := Lib.hid hac
         clear hac
         obtain ⟨wr, hwr⟩ : ∃ wr, wr = wc := ⟨_, rfl⟩
         subst hwr
         go_upto_region 14 with fail
         go_cut [71] (fun v wx => v = .bool ac ∧ wx = wr)
         case first =>
          clear HA HDN HNO
          by_cases h1l : i + 1 < s.length
          ·have g1 : ((i : Int) + 1 < s.length) = True := by simp; omega
           have xs := fun W => sl2_c s i (by omega) W
           have hq := two_eq s i 91 58
           rw [← HAC.out] at hq
           generalize (⟨((s.drop i).take 2).toArray⟩ : ByteArray) = X at *
           clear HAC
           cases ac with
           | true =>
            go_wp2_with fail
            go_meet
            exact ⟨rfl, rfl⟩
           | false =>
            go_wp2_with fail
            go_meet
            exact ⟨rfl, rfl⟩
          ·have g1 : ((i : Int) + 1 < s.length) = False := by simp; omega
           obtain rfl : ac = false := HAC.out.trans (by rw [ah_two, List.getElem?_eq_none (show s.length ≤ i + 1 by omega)]; simp)
           clear HAC
           go_wp2_with fail
           go_meet
           exact ⟨rfl, rfl⟩
         case rest =>
          obtain ⟨rfl, hwc⟩ := hcut
          subst hwc
          cases ac with
          | true =>
           as_aux_lemma =>
            have hil := ah_le HAC.out.symm
            simp only [List.length_cons, List.length_nil] at hil
            have hil2 : i + 2 ≤ s.length := by
             rcases hil with h | h
             ·omega
             ·cases h
            clear hil
            have hpc : partR s i first = clasP s (i + 2) := by unfold partR; rw [if_pos HAC.out.symm]
            have HPC := Lib.hid hpc
            clear hpc HAC
            go_wp2_with fail
            go_loopg [10] (s.length - (i + 2)) (fun g kv wx => wx = wc ∧ ∃ k : Nat, g = s.length - k ∧ kv = .int .i64 (k : Int) ∧ i + 2 ≤ k ∧ k ≤ s.length ∧ ∀ j, i + 2 ≤ j → j < k → ah s j [58, 93] = false)
            case atStart => exact ⟨rfl, i + 2, rfl, by simp, Nat.le_refl _, hil2, fun j h1 h2 => absurd h2 (by omega)⟩
            case round =>
             obtain ⟨hw, k, rfl, rfl, hik, hkl, hno⟩ := hrel
             subst hw
             have HN := Lib.hid hno
             clear hno
             have ek1 : IntKind.i64.wrap ((k : Int) + 1) = (k : Int) + 1 := by simp [IntKind.wrap, IntKind.signed, IntKind.bits]; omega
             have ek2 : IntKind.i64.wrap ((k : Int) + 2) = (k : Int) + 2 := by simp [IntKind.wrap, IntKind.signed, IntKind.bits]; omega
             by_cases hk1 : k + 1 < s.length
             ·have g1 : ((k : Int) + 1 < s.length) = True := by simp; omega
              have g1' : ((s.length : Int) ≤ (k : Int) + 1) = False := by simp; omega
              have xs := fun W => sl2_c s k (by omega) W
              have hq := two_eq s k 58 93
              generalize (⟨((s.drop k).take 2).toArray⟩ : ByteArray) = X at *
              cases ak : ah s k [58, 93] with
              | false =>
               rw [ak] at hq
               have HN2 : Hid (∀ j, i + 2 ≤ j → j < k + 1 → ah s j [58, 93] = false) := Lib.hid (fun j h1 h2 => by
                by_cases e : j = k
                ·subst e; exact ak
                ·exact HN.out j h1 (by omega))
               clear HN HA HDN HNO HPC ak
               go_wp2
               go_roundg (s.length - (k + 1))
               case measure => omega
               case rel => exact ⟨rfl, k + 1, rfl, by simp, by omega, by omega, HN2.out⟩
              | true =>
               rw [ak] at hq
               have hcl := clasP_some hik ak HN.out
               clear HN ak
               obtain ⟨G, ok, hG⟩ : ∃ G ok, clsV ((s.drop (i + 2)).take (k - (i + 2))) = (G, ok) := ⟨_, _, rfl⟩
               rw [hG] at hcl
               have xm : ∀ W : World, (Instr.slice 9 (.string ⟨s.toArray⟩) (some (.int .i64 ((i : Int) + 2))) (some (.int .i64 (k : Int))) none).run Tryz.prog W = .ok (.string ⟨((s.drop (i + 2)).take (k - (i + 2))).toArray⟩) W := fun W => slm_c s (i + 2) k hik hkl W
               have hcc := fun w => rclass_c ⟨((s.drop (i + 2)).take (k - (i + 2))).toArray⟩ w
               simp only [List.toList_toArray] at hcc
               rw [hG] at hcc
               unfold tupQ at hcc
               have HCC := Lib.hid hcc
               have HCL := Lib.hid (HPC.out.trans hcl)
               clear hcc hG hcl HPC
               generalize (⟨((s.drop (i + 2)).take (k - (i + 2))).toArray⟩ : ByteArray) = Y at *
               go_wp2_with fail
               refine (HCC.out _).mono ?_
               rintro e w4 ⟨rfl, hB4⟩
               have Zs := (Row.new w4 (fun _ => false)).storeCells G
               have hA4 := HA.out.below hB4
               have HA5 := Lib.hid (hA4.fresh G)
               have R5 := Lib.hid ((Row.new w4 (fun _ => false)).put G)
               have l4 : w.heap.size + 1 + 1 < w4.heap.size := hA4.r2.lt
               clear hB4 HCC hA4 HA
               cases ok with
               | false =>
                have hR : Hid (R = none) := Lib.hid (HNO.out (HA5.out.no HDN.out.symm (by rw [HCL.out]; rfl)))
                clear HDN HNO HCL
                go_wp2_with fail
                refine wp_load_row HA5.out.r1 rfl rfl ?_
                have S0 := Row.storeCells HA5.out.r0
                go_wp2
                have q := (Row.put HA5.out.r0 (fun _ => false)).load
                refine bodyPost_ret (v := .tuple #[.agg (barr fun _ => false), .int .i64 0, .int .i64 42]) (by simp [results, Tryz.results75, asAddr, Result.andThen, q]) rfl ⟨BkOut.no (hR.out), Below.setRow HA5.out.bel (Nat.le_refl _) _⟩
               | true =>
                have hst := HA5.out.step HDN.out.symm (by rw [HCL.out]; rfl : partR s i first = some (G, k + 2))
                have hor := fun w => ror_c F G w
                unfold bv at hor
                obtain ⟨H, hH⟩ : ∃ H, H = fun j => F j || G j := ⟨_, rfl⟩
                rw [← hH] at hor hst
                have HOR := Lib.hid hor
                have HST := Lib.hid hst
                clear hor hst hH HDN HNO HCL
                go_wp2_with fail
                clear Zs
                refine wp_load_row HA5.out.r2 rfl rfl ?_
                go_wp2_with fail
                refine wp_load_row R5.out rfl rfl ?_
                go_wp2_with fail
                refine (HOR.out _).mono ?_
                rintro e w6 ⟨rfl, hB6⟩
                have hA6 := HA5.out.below hB6
                have S6 := hA6.r2.storeCells H
                have HA7 := Lib.hid (hA6.put (H := H) HST.out.1 HST.out.2.2)
                have hkk := HST.out.1
                clear hB6 hA6 HA5 R5 HOR HST
                go_wp2
                go_roundg (s.length - (k + 2))
                case measure => omega
                case rel => exact ⟨k + 2, H, false, rfl, by simp, rfl, HA7.out⟩
             ·have g1 : ((k : Int) + 1 < s.length) = False := by simp; omega
              have g1' : ((s.length : Int) ≤ (k : Int) + 1) = True := by simp; omega
              have hR : Hid (R = none) := Lib.hid (HNO.out (HA.out.no HDN.out.symm (HPC.out.trans (clasP_none (fun j h1 h2 => HN.out j h1 (by omega))))))
              clear HDN HNO HPC HN
              go_wp2_with fail
              refine wp_load_row HA.out.r1 rfl rfl ?_
              have S0 := Row.storeCells HA.out.r0
              go_wp2
              have q := (Row.put HA.out.r0 (fun _ => false)).load
              refine bodyPost_ret (v := .tuple #[.agg (barr fun _ => false), .int .i64 0, .int .i64 42]) (by simp [results, Tryz.results75, asAddr, Result.andThen, q]) rfl ⟨BkOut.no (hR.out), Below.setRow HA.out.bel (Nat.le_refl _) _⟩
          | false =>
           as_aux_lemma =>
            have a58 : ah s i [91, 58] = false := HAC.out.symm
            have HA58 := Lib.hid a58
            clear a58 HAC
            obtain ⟨p, hp⟩ : ∃ p, p = rba s i first false := ⟨_, rfl⟩
            have hb1 := fun w => rbyte_c s hs i (by omega) first false w
            rw [← hp] at hb1
            have hpn : p.2.1 ≠ 0 → i + p.2.1 ≤ s.length := fun h => by rw [hp] at h ⊢; exact rba_le h
            obtain ⟨b, n, may⟩ := p
            unfold rbaV at hb1
            simp only at hb1 hpn
            have HB1 := Lib.hid hb1
            have HP := Lib.hid hp
            clear hb1 hp
            go_wp2_with fail
            refine (HB1.out _).mono ?_
            rintro e w4 ⟨rfl, hw4⟩
            subst hw4
            clear HB1
            by_cases hn0 : n = 0
            ·subst hn0
             have hR : Hid (R = none) := Lib.hid (HNO.out (HA.out.no HDN.out.symm (by unfold partR; rw [if_neg (by rw [HA58.out]; decide), ← HP.out]; rfl)))
             clear HDN HNO HP HA58 hpn
             go_wp2_with fail
             refine wp_load_row HA.out.r1 rfl rfl ?_
             have S0 := Row.storeCells HA.out.r0
             go_wp2
             have q := (Row.put HA.out.r0 (fun _ => false)).load
             refine bodyPost_ret (v := .tuple #[.agg (barr fun _ => false), .int .i64 0, .int .i64 42]) (by simp [results, Tryz.results75, asAddr, Result.andThen, q]) rfl ⟨BkOut.no (hR.out), Below.setRow HA.out.bel (Nat.le_refl _) _⟩
            ·have hkl := hpn hn0
             have zn : ((n : Int) == 0) = false := by rw [beq_eq_false_iff_ne]; omega
             obtain ⟨k, hk⟩ : ∃ k, k = i + n := ⟨_, rfl⟩
             have ek : IntKind.i64.wrap ((i : Int) + (n : Int)) = (k : Int) := by simp [IntKind.wrap, IntKind.signed, IntKind.bits]; omega
             have ek1 : IntKind.i64.wrap ((k : Int) + 1) = (k : Int) + 1 := by simp [IntKind.wrap, IntKind.signed, IntKind.bits]; omega
             have hik : i < k := by omega
             have hkl : k ≤ s.length := by omega
             obtain ⟨tw, htw⟩ : ∃ t, t = (ah s k [45] && decide (k + 1 < s.length) && !ah s k [45, 93]) := ⟨_, rfl⟩
             have hPR : partR s i first = if tw then (if (rba s (k + 1) false true).2.1 = 0 ∨ (rba s (k + 1) false true).2.2 = false ∨ may = false ∨ (rba s (k + 1) false true).1.toNat < b.toNat then none else some (rg b.toNat (rba s (k + 1) false true).1.toNat, k + 1 + (rba s (k + 1) false true).2.1)) else some (rg b.toNat b.toNat, k) := by
              unfold partR
              rw [if_neg (by rw [HA58.out]; decide), ← HP.out]
              simp only
              rw [if_neg hn0, ← hk, htw]
             have HPR := Lib.hid hPR
             have HTW := Lib.hid htw
             clear hPR htw HP HA58 hpn hk
             have hb256 := b.toNat_lt
             generalize b.toNat = B at *
             obtain ⟨wr, hwr⟩ : ∃ wr, wr = w4 := ⟨_, rfl⟩
             subst hwr
             go_upto_region 30 with fail
             go_cut [144] (fun v wx => v = .bool tw ∧ wx = wr)
             case first =>
              clear HA HDN HNO HPR
              by_cases h1l : k + 1 < s.length
              ·have g1 : ((k : Int) + 1 < s.length) = True := by simp; omega
               obtain ⟨c, hc⟩ : ∃ c, s[k]? = some c := ⟨_, List.getElem?_eq_getElem (by omega)⟩
               obtain ⟨d, hd⟩ : ∃ d, s[k + 1]? = some d := ⟨_, List.getElem?_eq_getElem h1l⟩
               have xk := fun W => ixm_c s k c hc W
               have xk1 : ∀ W : World, (Instr.index 9 (.string ⟨s.toArray⟩) (.int .i64 ((k : Int) + 1))).run Tryz.prog W = .ok (.int .u8 (d.toNat : Int)) W := fun W => ixj_c s k 1 d hd W
               by_cases k45 : c = 45
               ·subst k45
                by_cases k93 : d = 93
                ·subst k93
                 obtain rfl : tw = false := HTW.out.trans (by rw [ah_one, ah_two, hc, hd]; simp)
                 clear HTW hc hd
                 go_wp2_with fail
                 go_meet
                 exact ⟨rfl, rfl⟩
                ·have d93' : ((d.toNat : Int) == 93) = false := u8_ne (d := 93) k93
                 have d93 : ((d.toNat : Int) != 93) = true := by rw [bne, d93']; rfl
                 obtain rfl : tw = true := HTW.out.trans (by rw [ah_one, ah_two, hc, hd]; simp [k93, h1l])
                 clear HTW hc hd k93
                 generalize d.toNat = D at *
                 go_wp2_with fail
                 go_meet
                 exact ⟨rfl, rfl⟩
               ·have c45 : ((c.toNat : Int) == 45) = false := u8_ne (d := 45) k45
                obtain rfl : tw = false := HTW.out.trans (by rw [ah_one, ah_two, hc, hd]; simp [k45])
                clear HTW hc hd k45
                generalize c.toNat = C at *
                go_wp2_with fail
                go_meet
                exact ⟨rfl, rfl⟩
              ·have g1 : ((k : Int) + 1 < s.length) = False := by simp; omega
               obtain rfl : tw = false := HTW.out.trans (by rw [decide_eq_false h1l]; simp)
               clear HTW
               go_wp2_with fail
               go_meet
               exact ⟨rfl, rfl⟩
             case rest =>
              obtain ⟨rfl, hwc⟩ := hcut
              subst hwc
              obtain ⟨wr, hwr⟩ : ∃ wr, wr = wc := ⟨_, rfl⟩
              subst hwr
              clear HTW
              go_upto_if 144 with fail
              go_cut [6, 16] (fun iv bv wx => ∃ (m z : Nat), iv = .int .i64 (m : Int) ∧ bv = .int .u8 (z : Int) ∧ z < 256 ∧ Hid (partR s i first = some (rg B z, m)) ∧ wx = wr)
              case first =>
               cases tw with
               | false =>
                have HQ := Lib.hid (HPR.out.trans (if_neg (by decide)))
                clear HPR HA HDN HNO
                go_wp2_with fail
                go_meet
                exact ⟨k, B, rfl, rfl, hb256, HQ, rfl⟩
               | true =>
                obtain ⟨x, hx⟩ : ∃ x, x = rba s (k + 1) false true := ⟨_, rfl⟩
                have hb2 : ∀ w, Calls Tryz.prog 103 #[.string ⟨s.toArray⟩, .int .i64 ((k : Int) + 1), .bool false, .bool true] w fun x w' => x = .returned (rbaV (rba s (k + 1) false true)) ∧ w' = w := fun w => rbyte_c s hs (k + 1) (by omega) false true w
                rw [← hx] at hb2
                have hQ := HPR.out
                rw [if_pos rfl, ← hx] at hQ
                have hxn : x.2.1 ≠ 0 → k + 1 + x.2.1 ≤ s.length := fun h => by rw [hx] at h ⊢; exact rba_le h
                clear HPR hx
                obtain ⟨z, m, is⟩ := x
                unfold rbaV at hb2
                simp only at hb2 hQ hxn
                have HB2 := Lib.hid hb2
                have HQ := Lib.hid hQ
                clear hb2 hQ
                have hz256 := z.toNat_lt
                generalize z.toNat = Z at *
                go_wp2_with fail
                refine (HB2.out _).mono ?_
                rintro e w5 ⟨rfl, hw5⟩
                subst hw5
                clear HB2
                by_cases hm0 : m = 0
                ·subst hm0
                 have hR : Hid (R = none) := Lib.hid (HNO.out (HA.out.no HDN.out.symm (HQ.out.trans (if_pos (.inl rfl)))))
                 clear HDN HNO HQ hxn
                 go_wp2_with fail
                 refine wp_load_row HA.out.r1 rfl rfl ?_
                 have S0 := Row.storeCells HA.out.r0
                 go_wp2
                 have q := (Row.put HA.out.r0 (fun _ => false)).load
                 refine bodyPost_ret (v := .tuple #[.agg (barr fun _ => false), .int .i64 0, .int .i64 42]) (by simp [results, Tryz.results75, asAddr, Result.andThen, q]) rfl ⟨BkOut.no (hR.out), Below.setRow HA.out.bel (Nat.le_refl _) _⟩
                have hxl := hxn hm0
                have zm : ((m : Int) == 0) = false := by rw [beq_eq_false_iff_ne]; omega
                clear hxn
                cases is with
                | false =>
                 have hR : Hid (R = none) := Lib.hid (HNO.out (HA.out.no HDN.out.symm (HQ.out.trans (if_pos (.inr (.inl rfl))))))
                 clear HDN HNO HQ
                 go_wp2_with fail
                 refine wp_load_row HA.out.r1 rfl rfl ?_
                 have S0 := Row.storeCells HA.out.r0
                 go_wp2
                 have q := (Row.put HA.out.r0 (fun _ => false)).load
                 refine bodyPost_ret (v := .tuple #[.agg (barr fun _ => false), .int .i64 0, .int .i64 42]) (by simp [results, Tryz.results75, asAddr, Result.andThen, q]) rfl ⟨BkOut.no (hR.out), Below.setRow HA.out.bel (Nat.le_refl _) _⟩
                | true =>
                cases may with
                | false =>
                 have hR : Hid (R = none) := Lib.hid (HNO.out (HA.out.no HDN.out.symm (HQ.out.trans (if_pos (.inr (.inr (.inl rfl)))))))
                 clear HDN HNO HQ
                 go_wp2_with fail
                 refine wp_load_row HA.out.r1 rfl rfl ?_
                 have S0 := Row.storeCells HA.out.r0
                 go_wp2
                 have q := (Row.put HA.out.r0 (fun _ => false)).load
                 refine bodyPost_ret (v := .tuple #[.agg (barr fun _ => false), .int .i64 0, .int .i64 42]) (by simp [results, Tryz.results75, asAddr, Result.andThen, q]) rfl ⟨BkOut.no (hR.out), Below.setRow HA.out.bel (Nat.le_refl _) _⟩
                | true =>
                by_cases hzb : Z < B
                ·have lz : ((Z : Int) < B) = True := by simp; omega
                 have hR : Hid (R = none) := Lib.hid (HNO.out (HA.out.no HDN.out.symm (HQ.out.trans (if_pos (.inr (.inr (.inr hzb)))))))
                 clear HDN HNO HQ
                 go_wp2_with fail
                 refine wp_load_row HA.out.r1 rfl rfl ?_
                 have S0 := Row.storeCells HA.out.r0
                 go_wp2
                 have q := (Row.put HA.out.r0 (fun _ => false)).load
                 refine bodyPost_ret (v := .tuple #[.agg (barr fun _ => false), .int .i64 0, .int .i64 42]) (by simp [results, Tryz.results75, asAddr, Result.andThen, q]) rfl ⟨BkOut.no (hR.out), Below.setRow HA.out.bel (Nat.le_refl _) _⟩
                ·have lz : ((Z : Int) < B) = False := by simp; omega
                 have HQ2 : Hid (partR s i first = some (rg B Z, k + 1 + m)) := Lib.hid (HQ.out.trans (if_neg (by rintro (h | h | h | h); exact hm0 h; cases h; cases h; exact hzb h)))
                 have em1 : IntKind.i64.wrap (1 + (m : Int)) = 1 + (m : Int) := by simp [IntKind.wrap, IntKind.signed, IntKind.bits]; omega
                 have em2 : IntKind.i64.wrap ((k : Int) + (1 + (m : Int))) = (k : Int) + (1 + (m : Int)) := by simp [IntKind.wrap, IntKind.signed, IntKind.bits]; omega
                 clear HA HDN HNO HQ
                 go_wp2_with fail
                 go_meet
                 exact ⟨k + 1 + m, Z, by congr 1; omega, rfl, hz256, HQ2, rfl⟩
              case rest =>
               as_aux_lemma =>
                obtain ⟨m, z, rfl, rfl, hz, hQ, hwc⟩ := hcut
                subst hwc
                have hst := HA.out.step HDN.out.symm hQ.out
                have hml := hst.1
                have him := hst.2.1
                have hor := fun w => ror_c F (rg B z) w
                have hrg := fun w => rrange_c B z hb256 hz w
                unfold bv at hor hrg
                obtain ⟨H, hH⟩ : ∃ H, H = fun j => F j || rg B z j := ⟨_, rfl⟩
                rw [← hH] at hor hst
                generalize rg B z = G at *
                have HOR := Lib.hid hor
                have HRG := Lib.hid hrg
                have HST := Lib.hid hst.2.2
                clear hor hrg hst hH HDN HNO hQ HPR
                go_upto_region 36 with fail
                refine wp_region_noPanic ?_
                refine wp_region_held_drew (S := fun _ => True) (by as_aux_lemma => kernel_rfl) trivial (fun _ => ?_)
                have HA1 := Lib.hid HA.out.drew
                clear HA
                refine wpAnyH_take (i := 1) (v := ?_) rfl (by as_aux_lemma => kernel_rfl) (by as_aux_lemma => kernel_rfl) (by as_aux_lemma => kernel_rfl) (fun _ _ _ h => h) (Or.inl ⟨by as_aux_lemma => kernel_rfl, ?_⟩) (by trivial) ?_
                rotate_left
                ·(intro w hSw; (try dsimp only at hSw); go_simp); (try with_reducible rfl)
                try simp only [Act.put, laS]
                refine wpAnyH_take (i := 2) (v := ?_) rfl (by as_aux_lemma => kernel_rfl) (by as_aux_lemma => kernel_rfl) (by as_aux_lemma => kernel_rfl) (fun _ _ _ h => h) (Or.inl ⟨by as_aux_lemma => kernel_rfl, ?_⟩) (by trivial) ?_
                rotate_left
                ·(intro w hSw; (try dsimp only at hSw); go_simp); (try with_reducible rfl)
                try simp only [Act.put, laS]
                refine wpAnyH_ready (rs := [0, 3]) (by as_aux_lemma => kernel_rfl) (by simp) ?_
                refine AllReadyH.cons rfl (fun K hK => ?_) (AllReadyH.cons rfl (fun K hK => ?_) AllReadyH.nil)
                ·refine wp_load_row HA1.out.r2 rfl rfl ?_
                 refine hK.out _ _ trivial (fun _ => ?_)
                 clear hK K
                 try simp only [Act.put, laS]
                 refine wpAnyH_ready (rs := [3]) (by as_aux_lemma => kernel_rfl) (by simp) ?_
                 refine AllReadyH.cons rfl (fun K hK => ?_) AllReadyH.nil
                 go_simp
                 refine (HRG.out _).mono ?_
                 rintro e w5 ⟨rfl, hB5⟩
                 have HA2 := Lib.hid (HA1.out.below hB5)
                 clear hB5 HA1 HRG
                 refine hK.out _ _ trivial (fun _ => ?_)
                 clear hK K
                 try simp only [Act.put, laS]
                 refine wpAnyH_ready (rs := [4]) (by as_aux_lemma => kernel_rfl) (by simp) ?_
                 refine AllReadyH.cons rfl (fun K hK => ?_) AllReadyH.nil
                 go_simp
                 refine (HOR.out _).mono ?_
                 rintro e w6 ⟨rfl, hB6⟩
                 have hA6 := HA2.out.below hB6
                 have S6 := hA6.r2.storeCells H
                 have bs := barr_size H
                 have HA7 := Lib.hid (hA6.put (H := H) hml HST.out)
                 clear hB6 hA6 HA2 HOR HST
                 refine hK.out _ _ trivial (fun _ => ?_)
                 clear hK K
                 try simp only [Act.put, laS]
                 refine wpAnyH_ready (rs := [5]) (by as_aux_lemma => kernel_rfl) (by simp) ?_
                 refine AllReadyH.cons rfl (fun K hK => ?_) AllReadyH.nil
                 go_simp
                 refine hK.out _ _ trivial (fun _ => ?_)
                 clear hK K
                 try simp only [Act.put, laS]
                 refine wpAnyH_done (by as_aux_lemma => kernel_rfl) ?_ _
                 refine NoPanic.normal ?_
                 go_wp2
                 go_roundg (s.length - m)
                 case measure => omega
                 case rel => exact ⟨m, H, false, rfl, rfl, rfl, HA7.out⟩
                ·go_simp
                 refine (HRG.out _).mono ?_
                 rintro e w5 ⟨rfl, hB5⟩
                 have HA2 := Lib.hid (HA1.out.below hB5)
                 clear hB5 HA1 HRG
                 refine hK.out _ _ trivial (fun _ => ?_)
                 clear hK K
                 try simp only [Act.put, laS]
                 refine wpAnyH_ready (rs := [0]) (by as_aux_lemma => kernel_rfl) (by simp) ?_
                 refine AllReadyH.cons rfl (fun K hK => ?_) AllReadyH.nil
                 refine wp_load_row HA2.out.r2 rfl rfl ?_
                 refine hK.out _ _ trivial (fun _ => ?_)
                 clear hK K
                 try simp only [Act.put, laS]
                 refine wpAnyH_ready (rs := [4]) (by as_aux_lemma => kernel_rfl) (by simp) ?_
                 refine AllReadyH.cons rfl (fun K hK => ?_) AllReadyH.nil
                 go_simp
                 refine (HOR.out _).mono ?_
                 rintro e w6 ⟨rfl, hB6⟩
                 have hA6 := HA2.out.below hB6
                 have S6 := hA6.r2.storeCells H
                 have bs := barr_size H
                 have HA7 := Lib.hid (hA6.put (H := H) hml HST.out)
                 clear hB6 hA6 HA2 HOR HST
                 refine hK.out _ _ trivial (fun _ => ?_)
                 clear hK K
                 try simp only [Act.put, laS]
                 refine wpAnyH_ready (rs := [5]) (by as_aux_lemma => kernel_rfl) (by simp) ?_
                 refine AllReadyH.cons rfl (fun K hK => ?_) AllReadyH.nil
                 go_simp
                 refine hK.out _ _ trivial (fun _ => ?_)
                 clear hK K
                 try simp only [Act.put, laS]
                 refine wpAnyH_done (by as_aux_lemma => kernel_rfl) ?_ _
                 refine NoPanic.normal ?_
                 go_wp2
                 go_roundg (s.length - m)
                 case measure => omega
                 case rel => exact ⟨m, H, false, rfl, rfl, rfl, HA7.out⟩
  ·have hR : Hid (R = none) := Lib.hid (by rw [HR.out]; unfold brkR; rw [ah_one, h0]; simp [k91])
   have g91' : ((c.toNat : Int) == 91) = false := u8_ne (d := 91) k91
   have g91 : ((c.toNat : Int) != 91) = true := by rw [bne, g91']; rfl
   clear HR h0 k91
   generalize c.toNat = C at *
   go_enter Tryz.func75, Tryz.ntmps75
   go_wp2_with fail
   rw [← HW.out]
   clear HW hst0
   have R0 := R0.out; have R1 := R1.out; have B1 := B1.out
   go_wp2_with fail
   refine wp_load_row R1 rfl rfl ?_
   have S0 := Row.storeCells R0
   go_wp2
   have q := (Row.put R0 (fun _ => false)).load
   refine bodyPost_ret (v := .tuple #[.agg (barr fun _ => false), .int .i64 0, .int .i64 42]) (by simp [results, Tryz.results75, asAddr, Result.andThen, q]) rfl ⟨BkOut.no (hR.out), Below.setRow B1 (Nat.le_refl _) _⟩
end Go.Proofs.YtkcbknfhckomcaaGreatDoor
