/- What is no pattern, or no place. -/
import Derived.Test.YtjgegohidhdbpaaGreatDoorJMdF
import Derived.Test.YtjgegohidhdbpaaGreatDoorJMbV
import Derived.Test.YtjgegohidhdbpaaGreatDoorJRxTs
import Derived.Test.YtjgegohidhdbpaaGreatDoorJRxTj
import Derived.Test.YtjgegohidhdbpaaGreatDoorJSpanD
import Derived.Laws.Cover3
open Go.Proofs.Tryz
set_option linter.unusedVariables false
set_option linter.unusedSimpArgs false
set_option maxRecDepth 100000
set_option maxHeartbeats 40000000
namespace Go.Proofs.YtjgegohidhdbpaaGreatDoor
open Go.RowKit Go.Maps Go.WideMaps
theorem V6 (L : Value) (m : Bool) (s : List UInt8) (i j : Int) (hbad : m = true → ¬ ((0 ≤ i ∧ i ≤ (s.length : Int)) ∧ (0 ≤ j ∧ j ≤ (s.length : Int)))) (w : World) (hM : ∀ W, Below w.heap.size w W → Calls prog 32 #[L] W fun e w' => e = .returned (.bool m) ∧ Below W.heap.size W w') :
  Calls prog 9 #[L, .string ⟨s.toArray⟩, .int .i64 i, .int .i64 j] w fun e w' => e = .returned (.tuple #[qk kY, .bool false]) ∧ Below w.heap.size w w' := by
 have HM := ξ hM
 have HN := ξ (fun w => yS w)
 have HP := ξ (fun (q : Int) W => yB s q W)
 have Jk : qm (w.alloc (.cells cZ 27)) w.heap.size 10 27 (fun _ => .complex .f64 0 0) := qm.new w 10 27 (fun _ => .complex .f64 0 0)
 have Vw : Below w.heap.size w (w.alloc (.cells cZ 27)) := (Below.refl _ w).alloc (Nat.le_refl _) _
 have Gi := ξ (ζ Jk Vw)
 have HB := ξ hbad
 clear hM Jk Vw hbad
 go_enter func9, ntmps9
 go_wp2_with fail
 refine (HM.out _ Gi.out.2).mono ?_
 rintro e w1 ⟨rfl, qr⟩
 have HW : Hid (qm w1 w.heap.size 10 27 (fun _ => .complex .f64 0 0) ∧ Below w.heap.size w w1) := ξ ⟨Gi.out.1.below qr (by simp), Gi.out.2.trans (qr.mono (by simp))⟩
 clear qr
 cases m with
 | false =>
  go_wp2_with fail
  refine (HN.out _).mono ?_
  rintro e wn ⟨rfl, jG⟩
  have Js := HW.out.1.below jG HW.out.1.lt
  have lwn : w.heap.size < wn.heap.size := Js.lt
  have lwm := HW.out.2.size
  obtain ⟨Z, hZ⟩ : ∃ Z : Cp, Z = fun _ => none := ⟨_, rfl⟩
  rw [← hZ]
  have HZ := ξ hZ
  have Gj := ξ (HW.out.2.trans (jG.mono lwm))
  clear jG hZ
  unfold qk
  have r_ := Js.rf10
  have zI := ξ (kn (w := wn) (b := w.heap.size) Z)
  have za := ξ (qV (w := wn) (b := w.heap.size) Js Z)
  clear Js
  go_wp2
  refine bodyPost_ret (v := .tuple #[.agg (cH Z), .bool false]) (by simp [results, results9, go_sem, za.out]) rfl ⟨?_, Gj.out.trans (zI.out.below (by omega) (fun i e => by subst e; exact Nat.le_refl _))⟩
  show Ending.returned (.tuple #[qk Z, .bool false]) = Ending.returned (.tuple #[qk kY, .bool false])
  rw [HZ.out]
  rfl
 | true =>
  have hb := HB.out rfl
  by_cases hpi : 0 ≤ i ∧ i ≤ (s.length : Int)
  ·have Jb : ¬ (0 ≤ j ∧ j ≤ (s.length : Int)) := fun q => hb ⟨hpi, q⟩
   go_wp2_with fail
   refine (HP.out i _).mono ?_
   rintro e wp ⟨rfl, hwp⟩
   obtain rfl := hwp
   rw [show decide (0 ≤ i ∧ i ≤ (s.length : Int)) = true by simp; omega]
   go_wp2_with fail
   refine (HP.out j _).mono ?_
   rintro e wp ⟨rfl, hwp⟩
   obtain rfl := hwp
   rw [show decide (0 ≤ j ∧ j ≤ (s.length : Int)) = false by simp; omega]
   clear hb hpi Jb
   go_wp2_with fail
   refine (HN.out _).mono ?_
   rintro e wn ⟨rfl, jG⟩
   have Js := HW.out.1.below jG HW.out.1.lt
   have lwn : w.heap.size < wn.heap.size := Js.lt
   have lwm := HW.out.2.size
   obtain ⟨Z, hZ⟩ : ∃ Z : Cp, Z = fun _ => none := ⟨_, rfl⟩
   rw [← hZ]
   have HZ := ξ hZ
   have Gj := ξ (HW.out.2.trans (jG.mono lwm))
   clear jG hZ
   unfold qk
   have r_ := Js.rf10
   have zI := ξ (kn (w := wn) (b := w.heap.size) Z)
   have za := ξ (qV (w := wn) (b := w.heap.size) Js Z)
   clear Js
   go_wp2
   refine bodyPost_ret (v := .tuple #[.agg (cH Z), .bool false]) (by simp [results, results9, go_sem, za.out]) rfl ⟨?_, Gj.out.trans (zI.out.below (by omega) (fun i e => by subst e; exact Nat.le_refl _))⟩
   show Ending.returned (.tuple #[qk Z, .bool false]) = Ending.returned (.tuple #[qk kY, .bool false])
   rw [HZ.out]
   rfl
  ·go_wp2_with fail
   refine (HP.out i _).mono ?_
   rintro e wp ⟨rfl, hwp⟩
   obtain rfl := hwp
   rw [show decide (0 ≤ i ∧ i ≤ (s.length : Int)) = false by simp; omega]
   clear hb hpi
   go_wp2_with fail
   refine (HN.out _).mono ?_
   rintro e wn ⟨rfl, jG⟩
   have Js := HW.out.1.below jG HW.out.1.lt
   have lwn : w.heap.size < wn.heap.size := Js.lt
   have lwm := HW.out.2.size
   obtain ⟨Z, hZ⟩ : ∃ Z : Cp, Z = fun _ => none := ⟨_, rfl⟩
   rw [← hZ]
   have HZ := ξ hZ
   have Gj := ξ (HW.out.2.trans (jG.mono lwm))
   clear jG hZ
   unfold qk
   have r_ := Js.rf10
   have zI := ξ (kn (w := wn) (b := w.heap.size) Z)
   have za := ξ (qV (w := wn) (b := w.heap.size) Js Z)
   clear Js
   go_wp2
   refine bodyPost_ret (v := .tuple #[.agg (cH Z), .bool false]) (by simp [results, results9, go_sem, za.out]) rfl ⟨?_, Gj.out.trans (zI.out.below (by omega) (fun i e => by subst e; exact Nat.le_refl _))⟩
   show Ending.returned (.tuple #[qk Z, .bool false]) = Ending.returned (.tuple #[qk kY, .bool false])
   rw [HZ.out]
   rfl
def ndA : Nd := ⟨1, 0, 8589934592, 0, 0, 0, 0, 0, 0, 0⟩
def ndB : Nd := ⟨1, 0, 17179869184, 0, 0, 0, 0, 0, 0, 0⟩
def tS : T := .two 4 (.group 1 (.times 0 (-1) (.leaf ndA))) (.times 0 (-1) (.group 2 (.two 4 (.leaf ndA) (.leaf ndB))))
def sS : List UInt8 := [97, 97, 98]
def xS : List Nd := [ndA, ⟨6, 0, 0, 0, 0, 0, 0, 0, -1, 0⟩, ⟨7, 0, 0, 0, 0, 1, 0, 0, 0, 1⟩, ndA, ndB, ⟨4, 0, 0, 0, 0, 3, 4, 0, 0, 0⟩, ⟨7, 0, 0, 0, 0, 5, 0, 0, 0, 2⟩, ⟨6, 0, 0, 0, 0, 6, 0, 0, -1, 0⟩, ⟨4, 0, 0, 0, 0, 2, 7, 0, 0, 0⟩]
theorem Vd : lgR sS tS 0 = some 3 := by decide +kernel
theorem Ve : jO sS tS 0 3 1 = some (0, 1) ∧ jO sS tS 0 3 2 = some (1, 3) := by decide +kernel
theorem Gk : vh (fun j => (qd sS tS).ends 0 0 kY j) 3 0 = [0, 1, 2, 3] := by decide +kernel
theorem qeb : ∀ (i : Nat) (x : Nd), xS[i]? = some x → x.Fits := fun i x h => by
 have : x ∈ xS := List.mem_of_getElem? h
 simp only [xS, List.mem_cons, List.not_mem_nil, or_false] at this
 rcases this with rfl | rfl | rfl | rfl | rfl | rfl | rfl | rfl | rfl <;> exact ⟨by decide, by decide, by decide, by decide, by decide, by decide, by decide, by decide, by decide, by decide⟩
theorem qec : qN xS tS := by
 refine ⟨?_, ?_, rfl, by decide, ?_, ?_, by decide +kernel⟩
 ·exact ⟨.inl rfl, ⟨by decide +kernel, by decide +kernel, ⟨by decide +kernel, .inr (.inl rfl)⟩⟩, by decide +kernel, by decide +kernel, .inl rfl, ⟨by decide +kernel, .inr (.inl rfl)⟩, ⟨by decide +kernel, .inr (.inl rfl)⟩⟩
 ·exact ⟨⟨⟨rfl, rfl⟩, rfl⟩, ⟨⟨⟨rfl, rfl, rfl⟩, rfl⟩, rfl⟩, rfl⟩
 ·intro i x h
  have : x ∈ xS := List.mem_of_getElem? h
  simp only [xS, List.mem_cons, List.not_mem_nil, or_false] at this
  rcases this with rfl | rfl | rfl | rfl | rfl | rfl | rfl | rfl | rfl <;> decide +kernel
 ·intro i x h
  have : x ∈ xS := List.mem_of_getElem? h
  simp only [xS, List.mem_cons, List.not_mem_nil, or_false] at this
  rcases this with rfl | rfl | rfl | rfl | rfl | rfl | rfl | rfl | rfl
  ·exact trivial
  ·exact .inl (by decide +kernel)
  ·exact trivial
  ·exact trivial
  ·exact trivial
  ·exact ⟨by decide +kernel, by decide +kernel, by decide +kernel⟩
  ·exact trivial
  ·exact .inr (.inl (by decide +kernel))
  ·exact ⟨by decide +kernel, by decide +kernel, by decide +kernel⟩
open Go.Lib
theorem qed : (bytesOf ndA.set).data.toList = [97] := by decide +kernel
theorem qee : (bytesOf ndB.set).data.toList = [98] := by decide +kernel
theorem qgz : itoa 0 = [48] := by
 unfold itoa
 rw [if_neg (by omega)]
 exact decDigits_one (by decide)
theorem qgA : itoa (-1) = [45, 49] := by
 unfold itoa
 rw [if_pos (by omega)]
 show 45 :: decDigits 1 = _
 rw [decDigits_one (by omega)]
 rfl
theorem qjn : Zi [97] = [54, 49] := by decide +kernel
theorem qjo : Zi [98] = [54, 50] := by decide +kernel
def pS : List UInt8 := [38, 40, 42, 48, 44, 45, 49, 59, 91, 54, 49, 93, 41, 42, 48, 44, 45, 49, 59, 40, 38, 91, 54, 49, 93, 91, 54, 50, 93, 41]
theorem qhs : text tS = pS := by
 have ka : zC ndA = [91, 54, 49, 93] := by
  unfold zC
  rw [if_neg (by decide), if_pos (by rfl), qed, qjn]; rfl
 have kb : zC ndB = [91, 54, 50, 93] := by
  unfold zC
  rw [if_neg (by decide), if_pos (by rfl), qee, qjo]; rfl
 simp only [tS, text, ka, kb, qgz, qgA]
 rfl
theorem rdxS : Jw pS = xS := by rw [← qhs]; exact qcf qec qeb
theorem qjp (w : World) (hw : Jt w) :
  Calls prog 31 #[.string ⟨#[38, 40, 42, 48, 44, 45, 49, 59, 91, 54, 49, 93, 41, 42, 48, 44, 45, 49, 59, 40, 38, 91, 54, 49, 93, 91, 54, 50, 93, 41]⟩] w fun e w' => (∃ g cap, e = .returned (.tuple #[.slice (some ⟨g, 0, none⟩) 9 cap, .int .i64 0]) ∧ w.heap.size ≤ g ∧ qn w' g 0 xS) ∧ Below w.heap.size w w' := by
 have := qaS pS (by decide) tS (by rw [rdxS]; exact qec) qhs w hw
 rw [rdxS] at this
 exact this
theorem qbz {s : List UInt8} {t : T} (h : vt s.length (qd s t)) {i j : Nat} (kh : i ≤ j) (hj : j ≤ s.length) : qo s.length (jO s t i j) := fun g a b e => by
 unfold jO at e
 split at e
 ·cases e; exact ⟨kh, hj⟩
 ·exact h.leave_cap (had := fun _ => none) (fun g a b e => by cases e) kh hj g a b e
theorem qcX (w : World) (hw : Jt w) (hT : TabAt 0 Lib.deBruijn64tab w) (h0 : 0 < w.heap.size) :
  Calls prog 8 #[] w fun e w' => e = .returned (.bool true) ∧ Below w.heap.size w w' := by
 have HP := ξ (qjp w hw)
 have HT := ξ hT
 have HLG := ξ (fun (g cap : Nat) (W : World) (hx : qn W g 0 xS) (hT : TabAt 0 Lib.deBruijn64tab W) (h0 : 0 < W.heap.size) => (qbA g 0 cap sS xS tS qec qeb (by decide) (fun h => absurd h (by decide)) 0 (Nat.zero_le _) W hx hT h0 : _))
 have HEN := ξ (fun (g cap : Nat) (W : World) (hx : qn W g 0 xS) (hT : TabAt 0 Lib.deBruijn64tab W) (h0 : 0 < W.heap.size) => (qjq g 0 cap sS xS tS qec qeb (by decide) (fun h => absurd h (by decide)) 0 (Nat.zero_le _) W hx hT h0 : _))
 obtain ⟨Z, hZ⟩ : ∃ Z, Z = jO sS tS 0 3 := ⟨_, rfl⟩
 have kF : ZW sS (Z 1) = [97] := by rw [hZ, Ve.1]; rfl
 have vv : ZW sS (Z 2) = [97, 98] := by rw [hZ, Ve.2]; rfl
 have hzc : qo sS.length Z := by rw [hZ]; exact qbz (zw sS tS (kQ tS (jS tS qec.1)).1) (by omega) (by decide)
 have hlg : lgC sS tS 0 = Z := by unfold lgC; rw [Vd, hZ]
 have hlr : (lgR sS tS 0).isSome = true := by rw [Vd]; rfl
 have HG1 : Hid (∀ W, Calls prog 12 #[.string ⟨#[97, 97, 98]⟩, qk Z, .int .i64 1] W fun e w' => e = .returned (.string ⟨#[97]⟩) ∧ Below W.heap.size W w') := ξ (fun W => by
  have := JF sS (by decide) Z hzc 1 W
  rw [if_pos ⟨by omega, by omega⟩, show (1 : Int).toNat = 1 from rfl, kF] at this
  exact this)
 have Zk : Hid (∀ W, Calls prog 12 #[.string ⟨#[97, 97, 98]⟩, qk Z, .int .i64 2] W fun e w' => e = .returned (.string ⟨#[97, 98]⟩) ∧ Below W.heap.size W w') := ξ (fun W => by
  have := JF sS (by decide) Z hzc 2 W
  rw [if_pos ⟨by omega, by omega⟩, show (2 : Int).toNat = 2 from rfl, vv] at this
  exact this)
 have HLR := ξ (ζ hlg hlr)
 clear hT hZ kF vv hzc hlg hlr
 go_enter func8, ntmps8
 go_wp2_with fail
 refine HP.out.mono ?_
 rintro e w1 ⟨⟨g, cap, rfl, hg, hx⟩, qr⟩
 have lw1 := qr.size
 have hT1 := jP HT.out qr h0
 have qh := HLG.out g cap w1 hx hT1 (by omega)
 rw [HLR.out.1, HLR.out.2] at qh
 have qp := ξ qh
 have H1 := ξ (ζ hx (ζ hT1 qr))
 have lg := hx.lt
 clear qh hx hT1 qr
 go_wp2_with fail
 refine qp.out.mono ?_
 rintro e w2 ⟨rfl, zj⟩
 have lw2 := zj.size
 have vO := zG.new w2 (cH Z) 27
 have qQ : Below w1.heap.size w1 (w2.alloc (.cells (cH Z) 27)) := zj.alloc lw2 _
 have HE := ξ (HEN.out g cap (w2.alloc (.cells (cH Z) 27)) (H1.out.1.below qQ lg) (jP H1.out.2.1 qQ (by omega)) (by simp))
 have H3 := ξ (ζ vO qQ)
 clear zj vO qQ qp
 unfold qk
 go_wp2_with fail
 refine HE.out.mono ?_
 rintro e w4 ⟨val, rfl, zq, vU⟩
 rw [show vh (fun j => (qd sS tS).ends 0 0 kY j) sS.length 0 = [0, 1, 2, 3] from Gk] at zq
 have lz := vU.size
 rw [World.size_alloc] at lz
 obtain ⟨g5, cap5, Ku⟩ : ∃ g5 cap5, val = .slice (some ⟨g5, 0, none⟩) 4 cap5 := by
  rcases zq.2 with ⟨_, q⟩ | ⟨g5, cap5, cur, q, _⟩
  ·exact absurd q (by decide)
  ·exact ⟨g5, cap5, q⟩
 subst Ku
 have Qr := H3.out.1.below vU (by simp)
 have hB14 : Below w.heap.size w w4 := H1.out.2.2.trans ((H3.out.2.trans (vU.mono (by simp; omega))).mono lw1)
 have k0 : w4.cell? ⟨w2.heap.size, 0, none⟩ = some (qj (Z 0)) := qc.at (had := Z) Qr 0 (by decide)
 have k1 : w4.cell? ⟨w2.heap.size, 1, none⟩ = some (qj (Z 1)) := qc.at (had := Z) Qr 1 (by decide)
 have k2 : w4.cell? ⟨w2.heap.size, 2, none⟩ = some (qj (Z 2)) := qc.at (had := Z) Qr 2 (by decide)
 have k3 : w4.cell? ⟨w2.heap.size, 3, none⟩ = some (qj (Z 3)) := qc.at (had := Z) Qr 3 (by decide)
 have k4 : w4.cell? ⟨w2.heap.size, 4, none⟩ = some (qj (Z 4)) := qc.at (had := Z) Qr 4 (by decide)
 have k5 : w4.cell? ⟨w2.heap.size, 5, none⟩ = some (qj (Z 5)) := qc.at (had := Z) Qr 5 (by decide)
 have k6 : w4.cell? ⟨w2.heap.size, 6, none⟩ = some (qj (Z 6)) := qc.at (had := Z) Qr 6 (by decide)
 have k7 : w4.cell? ⟨w2.heap.size, 7, none⟩ = some (qj (Z 7)) := qc.at (had := Z) Qr 7 (by decide)
 have k8 : w4.cell? ⟨w2.heap.size, 8, none⟩ = some (qj (Z 8)) := qc.at (had := Z) Qr 8 (by decide)
 have k9 : w4.cell? ⟨w2.heap.size, 9, none⟩ = some (qj (Z 9)) := qc.at (had := Z) Qr 9 (by decide)
 have H4 := ξ (ζ Qr hB14)
 clear Qr hB14 zq vU HE
 have HG1 := HG1
 unfold qk at HG1 Zk
 go_wp2_with fail
 refine (HG1.out _).mono ?_
 rintro e w5 ⟨rfl, ki⟩
 have Y5 := H4.out.1.below ki (by omega)
 have lw5 := ki.size
 have H5 := ξ (ζ Y5 (H4.out.2.trans (ki.mono (by omega))))
 clear k0 k1 k2 k3 k4 k5 k6 k7 k8 k9 ki Y5
 have k0 : w5.cell? ⟨w2.heap.size, 0, none⟩ = some (qj (Z 0)) := qc.at (had := Z) H5.out.1 0 (by decide)
 have k1 : w5.cell? ⟨w2.heap.size, 1, none⟩ = some (qj (Z 1)) := qc.at (had := Z) H5.out.1 1 (by decide)
 have k2 : w5.cell? ⟨w2.heap.size, 2, none⟩ = some (qj (Z 2)) := qc.at (had := Z) H5.out.1 2 (by decide)
 have k3 : w5.cell? ⟨w2.heap.size, 3, none⟩ = some (qj (Z 3)) := qc.at (had := Z) H5.out.1 3 (by decide)
 have k4 : w5.cell? ⟨w2.heap.size, 4, none⟩ = some (qj (Z 4)) := qc.at (had := Z) H5.out.1 4 (by decide)
 have k5 : w5.cell? ⟨w2.heap.size, 5, none⟩ = some (qj (Z 5)) := qc.at (had := Z) H5.out.1 5 (by decide)
 have k6 : w5.cell? ⟨w2.heap.size, 6, none⟩ = some (qj (Z 6)) := qc.at (had := Z) H5.out.1 6 (by decide)
 have k7 : w5.cell? ⟨w2.heap.size, 7, none⟩ = some (qj (Z 7)) := qc.at (had := Z) H5.out.1 7 (by decide)
 have k8 : w5.cell? ⟨w2.heap.size, 8, none⟩ = some (qj (Z 8)) := qc.at (had := Z) H5.out.1 8 (by decide)
 have k9 : w5.cell? ⟨w2.heap.size, 9, none⟩ = some (qj (Z 9)) := qc.at (had := Z) H5.out.1 9 (by decide)
 go_wp2_with fail
 refine (Zk.out _).mono ?_
 rintro e w6 ⟨rfl, jY⟩
 have H6 := ξ (H5.out.2.trans (jY.mono (by omega)))
 clear jY
 go_wp2
 go_ret
 exact ⟨rfl, H6.out⟩
end Go.Proofs.YtjgegohidhdbpaaGreatDoor
namespace Go.Proofs.YtjgegohidhdbpaaGreatDoor
open Go.RowKit Go.Maps Go.WideMaps
def yr (xs : List Nd) (K : Int) : Nat → Nat
 | 0 => 0
 | k + 1 => yr xs K k + (match xs[k]? with | some x => if x.kind = K then 1 else 0 | none => 0)
theorem Xt (xs : List Nd) (K : Int) : ∀ k, yr xs K k ≤ k
 | 0 => Nat.le_refl _
 | k + 1 => by
  have := Xt xs K k
  rw [yr]
  split
  ·split <;> omega
  ·omega
def bdR (xs : List Nd) (s : List UInt8) : Bool := decide (xs.length ≤ 24) && decide (s.length ≤ 9) && (decide (yr xs 8 xs.length = 0) || (decide (yr xs 6 xs.length ≤ 2) && decide (s.length ≤ 6)))
theorem WZ {xs : List Nd} {K : Int} {k : Nat} {x : Nd} (hx : xs[k]? = some x) (h : x.kind = K) : yr xs K (k + 1) = yr xs K k + 1 := by rw [yr, hx]; simp [h]
theorem Xu {xs : List Nd} {K : Int} {k : Nat} {x : Nd} (hx : xs[k]? = some x) (h : x.kind ≠ K) : yr xs K (k + 1) = yr xs K k := by rw [yr, hx]; simp [h]
theorem V7 (p : Option Addr) (n cap : Nat) (xs : List Nd) (s : List UInt8) (w : World) (h : kS w p n xs) :
  Calls prog 7 #[.slice p n cap, .string ⟨s.toArray⟩] w fun e w' => e = .returned (.bool (bdR xs s)) ∧ w' = w := by
 have qq := h.len
 have W0 := h.small
 have kR : (⟨s.toArray⟩ : ByteArray).size = s.length := by simp [ByteArray.size]
 obtain ⟨R, hR⟩ : ∃ R, R = bdR xs s := ⟨_, rfl⟩
 rw [← hR]
 unfold bdR at hR
 rw [qq] at hR
 have HR := ξ hR
 have HN := ξ h
 have HLN := ξ qq
 clear hR h qq
 go_enter func7, ntmps7
 go_wp2
 go_loopw [5, 6, 7] (fun tv fv iv wr => ∃ k : Nat, k ≤ n ∧ iv = .int .i64 k ∧ tv = .int .i64 (yr xs 6 k : Nat) ∧ fv = .int .i64 (yr xs 8 k : Nat) ∧ wr = w) (fun _ _ iv _ => n - (RowKit.intOf iv).toNat)
 case atStart => exact ⟨0, Nat.zero_le _, rfl, rfl, rfl, rfl⟩
 case round =>
  obtain ⟨k, hk, rfl, rfl, rfl, rfl⟩ := hrel
  have l6 := Xt xs 6 k
  have l8 := Xt xs 8 k
  by_cases zb : k < n
  ·obtain ⟨b, o, rfl⟩ := HN.out.ptr (by omega)
   obtain ⟨x, hx⟩ : ∃ x, xs[k]? = some x := ⟨xs[k]'(by rw [HLN.out]; exact zb), List.getElem?_eq_getElem _⟩
   have c0 : wr.cell? ⟨b, o + k * 10, none⟩ = some (.int .i64 x.kind) := (HN.out.at' (by omega) b o rfl).cell k x hx 0 _ rfl
   have KM := ξ hx
   clear hx
   by_cases h6 : x.kind = 6
   ·have b6 : (x.kind == 6) = true := by simpa using h6
    have b8 : (x.kind == 8) = false := by rw [h6]; rfl
    have n8 : ¬ x.kind = 8 := by omega
    have e6 := ξ (WZ KM.out h6)
    have e8 := ξ (Xu KM.out n8)
    go_wp2
    go_roundw
    case rel => exact ⟨k + 1, by omega, by simp, by rw [e6.out]; simp, by rw [e8.out], by first | rfl | trivial⟩
    case measure => (simp [RowKit.intOf]) <;> omega
   ·have b6 : (x.kind == 6) = false := by rw [beq_eq_false_iff_ne]; exact h6
    have e6 := ξ (Xu KM.out h6)
    by_cases h8 : x.kind = 8
    ·have b8 : (x.kind == 8) = true := by simpa using h8
     have e8 := ξ (WZ KM.out h8)
     go_wp2
     go_roundw
     case rel => exact ⟨k + 1, by omega, by simp, by rw [e6.out], by rw [e8.out]; simp, by first | rfl | trivial⟩
     case measure => (simp [RowKit.intOf]) <;> omega
    ·have b8 : (x.kind == 8) = false := by rw [beq_eq_false_iff_ne]; exact h8
     have e8 := ξ (Xu KM.out h8)
     go_wp2
     go_roundw
     case rel => exact ⟨k + 1, by omega, by simp, by rw [e6.out], by rw [e8.out], by first | rfl | trivial⟩
     case measure => (simp [RowKit.intOf]) <;> omega
  ·obtain rfl : k = n := by omega
   have HL6 := ξ l6
   clear l6 l8 zb
   by_cases q1 : k ≤ 24
   ·by_cases q2 : s.length ≤ 9
    ·by_cases q3 : yr xs 8 k = 0
     ·have i1 : (k : Int) ≤ 24 := by omega
      have i2 : (s.length : Int) ≤ 9 := by omega
      have i3 : ((yr xs 8 k : Nat) : Int) = 0 := by omega
      go_wp2
      go_ret
      exact ⟨by rw [HR.out]; simp [q1, q2, q3], rfl⟩
     ·have i1 : (k : Int) ≤ 24 := by omega
      have i2 : (s.length : Int) ≤ 9 := by omega
      have i3 : ((((yr xs 8 k : Nat) : Int)) == 0) = false := by rw [beq_eq_false_iff_ne]; omega
      by_cases q4 : yr xs 6 k ≤ 2
      ·have i4 : ((yr xs 6 k : Nat) : Int) ≤ 2 := by omega
       by_cases q5 : s.length ≤ 6
       ·have i5 : (s.length : Int) ≤ 6 := by omega
        go_wp2
        go_ret
        exact ⟨by rw [HR.out]; simp [q1, q2, q3, q4, q5], rfl⟩
       ·have i5 : ¬ (s.length : Int) ≤ 6 := by omega
        go_wp2
        go_ret
        exact ⟨by rw [HR.out]; simp [q1, q2, q3, q4, q5], rfl⟩
      ·have i4 : ¬ ((yr xs 6 k : Nat) : Int) ≤ 2 := by omega
       go_wp2
       go_ret
       exact ⟨by rw [HR.out]; simp [q1, q2, q3, q4], rfl⟩
    ·have i1 : (k : Int) ≤ 24 := by omega
     have i2 : ¬ (s.length : Int) ≤ 9 := by omega
     go_wp2
     go_ret
     exact ⟨by rw [HR.out]; simp [q1, q2], rfl⟩
   ·have i1 : ¬ (k : Int) ≤ 24 := by omega
    go_wp2
    go_ret
    exact ⟨by rw [HR.out]; simp [q1], rfl⟩
end Go.Proofs.YtjgegohidhdbpaaGreatDoor
namespace Go.Proofs.YtjgegohidhdbpaaGreatDoor
open Go.RowKit Go.Lib
theorem Ua {xs : List Nd} : ∀ k, yr xs 8 k = 0 → ¬ jN xs k
 | 0, _, ⟨j, x, h, _⟩ => by omega
 | k + 1, h, ⟨j, x, hj, hx, h8⟩ => by
  rw [yr] at h
  by_cases e : j = k
  ·subst e
   rw [hx] at h
   simp [h8] at h
  ·exact Ua k (by omega) ⟨j, x, by omega, hx, h8⟩
theorem qcR {xs : List Nd} {s : List UInt8} (h : bdR xs s = true) : xs.length ≤ 24 ∧ s.length ≤ 9 := by
 unfold bdR at h
 simp only [Bool.and_eq_true, decide_eq_true_iff] at h
 exact h.1
theorem qik {xs : List Nd} {s : List UInt8} {t : T} (h : bdR xs s = true) (hp : qN xs t) : 0 < t.refs → s.length ≤ 6 ∧ xs.length ≤ 24 := fun hr => by
 have h3 := (ji t 0 hp.1 hp.2.1).2
 rw [Nat.zero_add, hp.2.2.1] at h3
 have ha := h3.2 (.inr hr)
 unfold bdR at h
 simp only [Bool.and_eq_true, Bool.or_eq_true, decide_eq_true_iff] at h
 rcases h.2 with q | q
 ·exact absurd ha (Ua _ q)
 ·exact ⟨q.2, h.1.1⟩
section
variable (p : Option Addr) (n cap : Nat) (xs : List Nd) (s : List UInt8) (w : World)
variable {p n xs s w}
end
open Go.Proofs.YtjgegohidhdbpaaGreatDoor.Fl
theorem tku {P : Program} {ops : Array Oper} {Q : Exit → Act → World → Prop} {md : Region.Mode} {S : World → Prop} {i : Nat} {oi : Oper} {fuel : Nat} {listed : Array Bool} {a : Act} {w : World} (hi : ops[i]? = some oi)
  (h : wpAnyH P md ops Q S fuel (listed.setIfInBounds i true) (a.put oi.dst undef) w)
  (hs : Region.noSelect ops = true := by kernel_rfl) (hf : Region.free md ops listed i = true := by kernel_rfl) (hr : (Region.ready md ops listed).contains i = true := by kernel_rfl)
  (hW : Region.wanted oi (yielded ops a.tmps) = false := by kernel_rfl) (hQ : ∀ c a w, Q (.panic c) (a.put oi.dst undef) w → Q (.panic c) a w := by exact fun _ _ _ h => h) (hS : S w := by assumption) : wpAnyH P md ops Q S (fuel + 1) listed a w :=
 wpAnyH_take hi hs hf hr hQ (Or.inr ⟨hW, rfl⟩) hS h
theorem tv {P : Program} {ops : Array Oper} {Q : Exit → Act → World → Prop} {md : Region.Mode} {S : World → Prop} {oi : Oper} {fuel : Nat} {listed l' : Array Bool} {a a' : Act} {w : World} (i : Nat) (h : wpAnyH P md ops Q S fuel l' a' w) (hi : ops[i]? = some oi := by rfl)
 (hl : listed.setIfInBounds i true = l' := by ((try simp only [Act.put, zm]); rfl)) (ha : a.put oi.dst undef = a' := by ((try simp only [Act.put, zm]); rfl))
 (hs : Region.noSelect ops = true := by kernel_rfl) (hf : Region.free md ops listed i = true := by kernel_rfl) (hr : (Region.ready md ops listed).contains i = true := by kernel_rfl)
 (hW : Region.wanted oi (yielded ops a.tmps) = false := by kernel_rfl) (hQ : ∀ c a w, Q (.panic c) (a.put oi.dst undef) w → Q (.panic c) a w := by exact fun _ _ _ h => h) (hS : S w := by assumption) : wpAnyH P md ops Q S (fuel + 1) listed a w := by
 subst hl ha
 exact tku (i := i) hi h hs hf hr hW hQ hS
end Go.Proofs.YtjgegohidhdbpaaGreatDoor
