/- All of a text, over a contract of row: the walk. -/
import Derived.Test.YtdjcgjkbecncaaaGreatDoorJBrW
import Derived.Test.YtdjcgjkbecncaaaGreatDoorJBrC
set_option linter.unusedVariables false
set_option linter.unusedSimpArgs false
set_option maxRecDepth 100000
set_option maxHeartbeats 40000000
namespace Go.Proofs.YtdjcgjkbecncaaaGreatDoor
open Go.RowKit
def rd0 : BRd := ⟨0, [], 0, fun _ => false⟩
section
variable {b : Nat} {s : List UInt8} {v : Value}
theorem whole_c (hrow : RowC b s 0 (rowP s 10)) (w : World) (h : RX w b s rd0 v) (hF : FB w b v) :
  Calls Tryz.prog 126 #[.pointer (some ⟨b, 0, none⟩)] w (ROut w b s v (fun _ : Unit => .tuple #[]) (unitR (wholeP s))) := by
 have hO := over_c w h.tx
 have HW := Lib.hid fun z a w => wrong_c z a w
 by_cases hs : s = []
 ·have hd : decide (rd0.p = s.length) = true := by rw [hs]; rfl
  rw [hd] at hO
  have hr : unitR (wholeP s) = .ok ((), rd0.put (kindNd 0)) := by unfold wholeP; simp only; rw [if_pos hs]; rfl
  have HR := Lib.hid hr
  have HO := Lib.hid hO
  have H := Lib.hid h
  have HPT := Lib.hid fun w1 (h1 : RX w1 b s rd0 v) => rput_c ⟨0, 0, 0, 0, 0, 0, 0, 0, 0, 0⟩ w1 h1
  simp only at HPT
  clear hr hO h hF hrow hd hs
  go_enter Tryz.func126, Tryz.ntmps126
  go_wp2_with fail
  refine HO.out.mono ?_
  rintro e w1 ⟨rfl, hB1⟩
  have X1 := Lib.hid (H.out.below hB1)
  have K1 := Lib.hid (RK.below (b := b) (v := v) hB1)
  clear hB1 HO H
  go_wp2_with fail
  refine (HPT.out _ X1.out).mono ?_
  rintro e w6 ⟨rfl, v6, x6, k6⟩
  have X6 := Lib.hid x6
  have K6 := Lib.hid (K1.out.trans k6)
  clear x6 k6 HPT
  go_wp2
  go_end0
  exact ROut.yes HR.out X6.out K6.out
 ·have hd : decide (rd0.p = s.length) = false := by
   rw [decide_eq_false_iff_not]
   intro q
   exact hs (List.length_eq_zero_iff.1 q.symm)
  rw [hd] at hO
  have hWp : wholeP s = (match rowP s 10 rd0 with
   | .error e => .error e
   | .ok (_, q) => if q.p ≠ s.length then .error (41, q.p) else if 120 < q.l.length then .error (2, 0) else .ok q) := by unfold wholeP; simp only; rw [if_neg hs]; rfl
  have HWP := Lib.hid hWp
  have HO := Lib.hid hO
  have H := Lib.hid h
  have HFB := Lib.hid hF
  have HROW := Lib.hid hrow
  clear hWp hO h hF hrow hd hs
  go_enter Tryz.func126, Tryz.ntmps126
  go_wp2_with fail
  refine HO.out.mono ?_
  rintro e w1 ⟨rfl, hB1⟩
  have X1 := Lib.hid (H.out.below hB1)
  have K1 := Lib.hid (RK.below (b := b) (v := v) hB1)
  have F1 := Lib.hid (HFB.out.step K1.out)
  clear hB1 HO H
  go_wp2_with fail
  refine (HROW.out w1 rd0 v X1.out F1.out rfl).mono ?_
  intro e w2 hout
  have hout := ROut.trans K1.out hout
  clear HROW
  unfold ROut at hout
  cases hrr : rowP s 10 rd0 with
  | error er =>
   obtain ⟨z, ea⟩ := er
   rw [hrr] at hout
   obtain ⟨rfl, v2, k2⟩ := hout
   have hr : unitR (wholeP s) = .error (z, ea) := by rw [HWP.out, hrr]; rfl
   unfold Pan
   go_wp2
   exact ⟨rfl, ROut.no hr k2⟩
  | ok rq =>
   obtain ⟨any, q⟩ := rq
   rw [hrr] at hout
   obtain ⟨rfl, v2, x2, k2⟩ := hout
   have ho2 := over_c w2 x2.tx
   by_cases hp : q.p = s.length
   ·rw [decide_eq_true hp] at ho2
    obtain ⟨o, cap, rfl⟩ := x2.slice
    have HO2 := Lib.hid ho2
    have X2 := Lib.hid x2
    have K2 := Lib.hid k2
    clear ho2 x2 k2
    by_cases hl : 120 < q.l.length
    ·have hr : unitR (wholeP s) = .error (2, 0) := by rw [HWP.out, hrr]; simp only; rw [if_neg (by simpa using hp), if_pos hl]; rfl
     have HR := Lib.hid hr
     have hg : ((120 : Int) < (q.l.length : Int)) = True := by simp; omega
     clear hr hp hl
     go_wp2_with fail
     refine HO2.out.mono ?_
     rintro e w3 ⟨rfl, hB3⟩
     have d2 : w3.cell? ⟨b, 2, none⟩ = some (.slice o q.l.length cap) := ((X2.out.below hB3).cell 2).trans rfl
     have K3 := Lib.hid (K2.out.trans (RK.below hB3))
     clear hB3 HO2 X2 K2
     go_wp2_with fail
     refine (HW.out 2 0 _).mono ?_
     rintro e wz ⟨rfl, rfl⟩
     unfold Pan
     go_wp2
     exact ⟨rfl, ROut.no (HR.out) K3.out⟩
    ·have hr : unitR (wholeP s) = .ok ((), q) := by rw [HWP.out, hrr]; simp only; rw [if_neg (by simpa using hp), if_neg hl]; rfl
     have HR := Lib.hid hr
     have hg : ((120 : Int) < (q.l.length : Int)) = False := by simp; omega
     clear hr hp hl
     go_wp2_with fail
     refine HO2.out.mono ?_
     rintro e w3 ⟨rfl, hB3⟩
     have d2 : w3.cell? ⟨b, 2, none⟩ = some (.slice o q.l.length cap) := ((X2.out.below hB3).cell 2).trans rfl
     have X3 := Lib.hid (X2.out.below hB3)
     have K3 := Lib.hid (K2.out.trans (RK.below hB3))
     clear hB3 HO2 X2 K2
     go_wp2
     go_end0
     exact ROut.yes HR.out X3.out K3.out
   ·rw [decide_eq_false hp] at ho2
    have hr : unitR (wholeP s) = .error (41, q.p) := by rw [HWP.out, hrr]; simp only; rw [if_pos hp]; rfl
    have HR := Lib.hid hr
    have HO2 := Lib.hid ho2
    have X2 := Lib.hid x2
    have K2 := Lib.hid k2
    clear ho2 x2 k2 hr hp
    go_wp2_with fail
    refine HO2.out.mono ?_
    rintro e w3 ⟨rfl, hB3⟩
    have d1 : w3.cell? ⟨b, 1, none⟩ = some (.int .i64 (q.p : Int)) := ((X2.out.below hB3).cell 1).trans rfl
    have K3 := Lib.hid (K2.out.trans (RK.below hB3))
    clear hB3 HO2 X2 K2
    go_wp2_with fail
    refine (HW.out 41 (q.p : Int) _).mono ?_
    rintro e wz ⟨rfl, rfl⟩
    unfold Pan
    go_wp2
    exact ⟨rfl, ROut.no (HR.out) K3.out⟩
end
end Go.Proofs.YtdjcgjkbecncaaaGreatDoor
namespace Go.Proofs.YtdjcgjkbecncaaaGreatDoor
open Go.RowKit
theorem faultm_yes (K : FuncId) (cap : Array Value) (z a : Int) (w : World) (Q : World → Prop) (hen : ∀ w, (callFunc K cap).run Tryz.prog w = .ok (.enter K cap) w)
  (hK : ∀ W, W = w.alloc (.cells #[.int .i64 0, .int .i64 0] 152) → Calls Tryz.prog K cap W fun e w' => e = Pan z a ∧ FV w' w.heap.size 0 0 ∧ Q w') :
  Calls Tryz.prog 122 #[.func (.func K) cap #[]] w fun e w' => e = .returned (.agg #[.int .i64 z, .int .i64 a]) ∧ ∃ w1, Q w1 ∧ w1.grownBy w' (some w.heap.size) := by
 have hmf : ∀ (fn : Fn) (first cap : Array Value) (w : World), (Instr.makeFunc fn first cap).run Tryz.prog w = .ok (.func fn first cap) w := fun _ _ _ _ => rfl
 have HK := Lib.hid (hK _ rfl)
 clear hK
 go_enter_defers Tryz.func122, Tryz.ntmps122
 go_wp2_with fail
 refine HK.out.mono ?_
 rintro e w1 ⟨rfl, hF, hQ⟩
 unfold Pan
 go_wp2
 refine leaves_cons (f := 141) (args := #[.pointer (some ⟨w.heap.size, 0, none⟩)]) (by simp) (by simp [go_sem]) ?_
 refine (catch_fault w.heap.size z a [] _ hF).mono ?_
 rintro e u' w'' ⟨rfl, rfl, hF2, hG⟩
 have c0 := hF2.c0
 have c1 := hF2.c1
 simp [Leaves, settle, results, Tryz.results122, go_sem, c0, c1]
 exact ⟨w1, hQ, hG⟩
theorem faultm_no (K : FuncId) (cap : Array Value) (w : World) (Q : World → Prop) (hen : ∀ w, (callFunc K cap).run Tryz.prog w = .ok (.enter K cap) w)
  (hK : ∀ W, W = w.alloc (.cells #[.int .i64 0, .int .i64 0] 152) → Calls Tryz.prog K cap W fun e w' => e = .returned (.tuple #[]) ∧ FV w' w.heap.size 0 0 ∧ Q w') :
  Calls Tryz.prog 122 #[.func (.func K) cap #[]] w fun e w' => e = .returned (.agg #[.int .i64 0, .int .i64 0]) ∧ ∃ w1, Q w1 ∧ w1.grownBy w' (some w.heap.size) := by
 have hmf : ∀ (fn : Fn) (first cap : Array Value) (w : World), (Instr.makeFunc fn first cap).run Tryz.prog w = .ok (.func fn first cap) w := fun _ _ _ _ => rfl
 have HK := Lib.hid (hK _ rfl)
 clear hK
 go_enter_defers Tryz.func122, Tryz.ntmps122
 go_wp2_with fail
 refine HK.out.mono ?_
 rintro e w1 ⟨rfl, hF, hQ⟩
 have c0 := hF.c0
 have c1 := hF.c1
 have f0 := hF.fz 0
 have f1 := hF.fz 1
 have q := hF.set 0 0
 have gr0 : w1.grownBy w1 (some w.heap.size) := ⟨rfl, rfl, rfl, Nat.le_refl _, fun _ _ _ => rfl⟩
 have gr := grown_setc (grown_setc gr0 0 (.int .i64 0)) 1 (.int .i64 0)
 have d0 := q.c0
 have d1 := q.c1
 have HG := Lib.hid gr
 clear q gr0 gr HK hF
 go_wp2
 refine leaves_cons (f := 141) (args := #[.pointer (some ⟨w.heap.size, 0, none⟩)]) (by simp) (by simp [go_sem]) ?_
 refine (catch_idle w.heap.size _).mono ?_
 rintro e u' w'' ⟨rfl, rfl, rfl⟩
 simp [Leaves, settle, results, Tryz.results122, go_sem, d0, d1]
 exact ⟨w1, hQ, HG.out⟩
def POut (w : World) (s : List UInt8) (e : Ending) (w' : World) : Prop :=
 match wholeP s with
 | .ok q => ∃ v, e = .returned (.tuple #[v, .int .i64 0, .int .i64 0]) ∧ w'.ownsRow 0 37 10 v q.l.length (flat q.l) ∧ (∀ k, v.ownBlock = some k → w.heap.size ≤ k)
 | .error (z, a) => e = .returned (.tuple #[.slice none 0 0, .int .i64 (a : Int), .int .i64 z])
theorem POut.no {w w' : World} {s : List UInt8} {z : Int} {a : Nat} (h : wholeP s = .error (z, a)) : POut w s (.returned (.tuple #[.slice none 0 0, .int .i64 (a : Int), .int .i64 z])) w' := by unfold POut; rw [h]
theorem POut.yes {w w' : World} {s : List UInt8} {q : BRd} {v : Value} (h : wholeP s = .ok q) (hv : w'.ownsRow 0 37 10 v q.l.length (flat q.l)) (hb : ∀ k, v.ownBlock = some k → w.heap.size ≤ k) : POut w s (.returned (.tuple #[v, .int .i64 0, .int .i64 0])) w' := by unfold POut; rw [h]; exact ⟨v, rfl, hv, hb⟩
theorem parse_c (s : List UInt8) (hs : s.length ≤ 100000) (hrow : ∀ b, RowC b s 0 (rowP s 10)) (w : World) (hm : MaxL w) (hy : SynV w) :
  Calls Tryz.prog 99 #[.string ⟨s.toArray⟩] w fun e w' => POut w s e w' ∧ Below w.heap.size w w' := by
 have hmf : ∀ (fn : Fn) (first cap : Array Value) (w : World), (Instr.makeFunc fn first cap).run Tryz.prog w = .ok (.func fn first cap) w := fun _ _ _ _ => rfl
 have hml := hm.lt
 have hyl := hy.lt
 obtain ⟨W1, hW1⟩ : ∃ W1, W1 = w.alloc (.cells #[.string ⟨s.toArray⟩, .int .i64 0, .slice none 0 0, .int .i64 0, .bool false, .bool false, .bool false, .bool false, .bool false, .bool false, .bool false, .bool false, .bool false, .bool false] 156) := ⟨_, rfl⟩
 have hh : (w.alloc (.cells #[.string ⟨s.toArray⟩, .int .i64 0, .slice none 0 0, .int .i64 0, .bool false, .bool false, .bool false, .bool false, .bool false, .bool false, .bool false, .bool false, .bool false, .bool false] 156)).heap[w.heap.size]? = some (.cells #[.string ⟨s.toArray⟩, .int .i64 0, .slice none 0 0, .int .i64 0, .bool false, .bool false, .bool false, .bool false, .bool false, .bool false, .bool false, .bool false, .bool false, .bool false] 156 (0, 0)) := heap_new w _
 have b1 : Below w.heap.size w (w.alloc (.cells #[.string ⟨s.toArray⟩, .int .i64 0, .slice none 0 0, .int .i64 0, .bool false, .bool false, .bool false, .bool false, .bool false, .bool false, .bool false, .bool false, .bool false, .bool false] 156)) := (Below.refl _ w).alloc (Nat.le_refl _) _
 have hz1 : (w.alloc (.cells #[.string ⟨s.toArray⟩, .int .i64 0, .slice none 0 0, .int .i64 0, .bool false, .bool false, .bool false, .bool false, .bool false, .bool false, .bool false, .bool false, .bool false, .bool false] 156)).heap.size = w.heap.size + 1 := World.size_alloc _ _
 rw [← hW1] at hh b1 hz1
 have x1 : RX W1 w.heap.size s rd0 (.slice none 0 0) := ⟨hh, ⟨rfl, .inl ⟨rfl, rfl⟩⟩, by simp [Value.ownBlock], Nat.zero_le _, hs, Nat.zero_le _⟩
 have b2 := (Below.refl _ W1).alloc (Nat.le_refl _) (.cells #[.int .i64 0, .int .i64 0] 152)
 have x2 := x1.below b2
 have F2 : FB (W1.alloc (.cells #[.int .i64 0, .int .i64 0] 152)) w.heap.size (.slice none 0 0) := ⟨(hm.below b1).below b2, (hy.same (b1.block _ hyl)).same (b2.block _ (by omega)), by omega, by omega, by simp [Value.ownBlock], by simp [Value.ownBlock]⟩
 have v2 := FV.new W1 0 0
 have hen : ∀ w' : World, (callFunc 126 #[.pointer (some ⟨w.heap.size, 0, none⟩)]).run Tryz.prog w' = .ok (.enter 126 #[.pointer (some ⟨w.heap.size, 0, none⟩)]) w' := fun w' => by simp [go_sem]
 have hwc := whole_c (hrow w.heap.size) _ x2 F2
 have HW1 := Lib.hid hW1
 have B1 := Lib.hid b1
 have B2 := Lib.hid b2
 have hfv : ∀ (w' : World) (v' : Value), RK (W1.alloc (.cells #[.int .i64 0, .int .i64 0] 152)) w.heap.size (.slice none 0 0) w' v' → FV w' W1.heap.size 0 0 := fun w' v' k => ⟨(k.k.block _ v2.lt (fun e => by
  rcases e with e | e
  ·omega
  ·simp [Value.ownBlock] at e)).trans v2.heap⟩
 have hbel : ∀ (w4 w5 : World) (v' : Value), RK (W1.alloc (.cells #[.int .i64 0, .int .i64 0] 152)) w.heap.size (.slice none 0 0) w4 v' → w4.grownBy w5 (some W1.heap.size) → Below w.heap.size w w5 := fun w4 w5 v' k g => by
  have B12 := B1.out.trans (B2.out.mono B1.out.size)
  have h1 : But (fun k => k = w.heap.size ∨ k = W1.heap.size) (W1.alloc (.cells #[.int .i64 0, .int .i64 0] 152)) w5 := (⟨k.k.os, k.k.tape, k.k.output, k.k.size, fun j hj hs => k.k.block j hj (fun e => by
   rcases e with e | e
   ·exact hs (.inl e)
   ·simp [Value.ownBlock] at e)⟩ : But _ _ _).trans (But.grown g (.inr rfl))
  exact B12.trans (h1.to_below B12.size (fun k hk => by omega))
 unfold ROut at hwc
 cases hr : wholeP s with
 | error er =>
  obtain ⟨z, a⟩ := er
  have her := wholeP_er s (z, a) hr
  rw [show unitR (wholeP s) = .error (z, a) by rw [hr]; rfl] at hwc
  have hf := faultm_yes 126 #[.pointer (some ⟨w.heap.size, 0, none⟩)] z (a : Int) W1 (fun w' => ∃ v', RK (W1.alloc (.cells #[.int .i64 0, .int .i64 0] 152)) w.heap.size (.slice none 0 0) w' v') hen (fun W hW => by
   subst hW
   refine hwc.mono ?_
   rintro e w' ⟨rfl, v', k⟩
   exact ⟨rfl, hfv w' v' k, v', k⟩)
  have HF := Lib.hid hf
  have HR := Lib.hid hr
  have HBE := Lib.hid hbel
  have hzz : (z != 0) = true := by
   have := her.2
   rw [bne_iff_ne]
   simp only at this
   omega
  clear hf hr hwc hfv hbel x1 x2 F2 v2 b1 b2 hW1 hh hm hy hrow her
  go_enter Tryz.func99, Tryz.ntmps99
  go_wp2_with fail
  rw [← HW1.out]
  clear HW1
  refine HF.out.mono ?_
  rintro e w5 ⟨rfl, w4, ⟨v', k⟩, g⟩
  have HB5 := Lib.hid (HBE.out w4 w5 v' k g)
  clear k g HBE HF
  go_wp2_with fail
  go_quiet (fail)
  have hbq := ((HB5.out.alloc HB5.out.size (.cells #[.int .i64 z, .int .i64 (a : Int)] 152)))
  have HBQ := Lib.hid hbq
  clear hbq
  go_wp2
  refine bodyPost_ret (v := .tuple #[.slice none 0 0, .int .i64 (a : Int), .int .i64 z]) (by simp [results, Tryz.results99, go_sem]) rfl ?_
  exact ⟨POut.no HR.out, Go.below_drewN HBQ.out _⟩
 | ok q =>
  rw [show unitR (wholeP s) = .ok ((), q) by rw [hr]; rfl] at hwc
  have hf := faultm_no 126 #[.pointer (some ⟨w.heap.size, 0, none⟩)] W1 (fun w' => ∃ v', RX w' w.heap.size s q v' ∧ RK (W1.alloc (.cells #[.int .i64 0, .int .i64 0] 152)) w.heap.size (.slice none 0 0) w' v') hen (fun W hW => by
   subst hW
   refine hwc.mono ?_
   rintro e w' ⟨rfl, v', x, k⟩
   exact ⟨rfl, hfv w' v' k, v', x, k⟩)
  have HF := Lib.hid hf
  have HR := Lib.hid hr
  have HBE := Lib.hid hbel
  have hsz2 := B2.out.size
  clear hf hr hwc hfv hbel x1 x2 F2 v2 b1 b2 hW1 hh hm hy hrow
  go_enter Tryz.func99, Tryz.ntmps99
  go_wp2_with fail
  rw [← HW1.out]
  clear HW1
  refine HF.out.mono ?_
  rintro e w5 ⟨rfl, w4, ⟨v', x4, k⟩, g⟩
  have hvb : ∀ j, v'.ownBlock = some j → W1.heap.size < j ∨ W1.heap.size + 1 ≤ j := fun j e => by
   rcases k.v with e2 | ⟨m, e2, hm⟩
   ·rw [e2] at e; simp [Value.ownBlock] at e
   ·rw [e2] at e; cases e; rw [World.size_alloc] at hm; exact .inr hm
  have hne : v'.ownBlock ≠ some W1.heap.size := fun e => by rcases hvb _ e with q | q <;> omega
  have hrow5 : w5.ownsRow 0 37 10 v' q.l.length (flat q.l) := x4.row.kept g (.inr hne)
  have hh5 : w5.heap[w.heap.size]? = some (.cells (rcells s q v') 156 (0, 0)) := (g.block _ x4.lt (fun e => by have := Option.some.inj e; omega)).trans x4.heap
  have d2 : w5.cell? ⟨w.heap.size, 2, none⟩ = some v' := (cell_of _ _ _ _ hh5 2).trans rfl
  have hb5 := HBE.out w4 w5 v' k g
  have hba := (Below.refl w5.heap.size w5).alloc (Nat.le_refl _) (.cells #[.int .i64 0, .int .i64 0] 152)
  have HROW6 := Lib.hid (hrow5.kept (grownB (row := some W1.heap.size) hba) (.inr hne))
  have HB6 := Lib.hid (hb5.trans (hba.mono hb5.size))
  have HVB := Lib.hid (fun j e => show w.heap.size ≤ j by rcases hvb j e with q | q <;> omega)
  have hl5 : w.heap.size < w5.heap.size := (Array.getElem?_eq_some_iff.1 hh5).1
  clear k g HBE HF x4 hrow5 hh5 hb5 hba hvb hne
  go_wp2
  refine bodyPost_ret (v := .tuple #[v', .int .i64 0, .int .i64 0]) (by simp [results, Tryz.results99, go_sem]) rfl ?_
  exact ⟨POut.yes HR.out HROW6.out HVB.out, HB6.out⟩
end Go.Proofs.YtdjcgjkbecncaaaGreatDoor
