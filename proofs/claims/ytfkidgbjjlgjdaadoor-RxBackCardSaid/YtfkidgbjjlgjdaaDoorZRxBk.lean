/- RxBack: the walk. -/
import Derived.Test.YtfkidgbjjlgjdaaDoorZRxTs
import Derived.Test.YtfkidgbjjlgjdaaDoorZRxSm
namespace Go.Proofs.YtfkidgbjjlgjdaaDoor
open Go.RowKit
set_option linter.unusedVariables false
set_option linter.unusedSimpArgs false

theorem text_pos : ∀ t : T, text t ≠ []
  | .leaf x => by
    show leafText x ≠ []
    unfold leafText
    repeat' split
    all_goals simp
  | .two k a b => by simp [text]
  | .times m M t => by simp [text]
  | .group n t => by simp [text]
theorem nodes_of_at {w : World} {b o n : Nat} {xs : List Nd} (hlen : xs.length = n) (hn : n ≤ 1000) (hfit : ∀ (i : Nat) (x : Nd), xs[i]? = some x → x.Fits) (hx : NodesAt w b o xs) : Nodes w (some ⟨b, o, none⟩) n xs :=
  ⟨hlen, by omega, fun _ => ⟨b, o, rfl⟩, fun _ b' o' e => by
    simp only [Option.some.injEq, Addr.mk.injEq] at e
    obtain ⟨rfl, rfl, _⟩ := e
    exact hx, hfit⟩

set_option maxRecDepth 100000 in
set_option maxHeartbeats 4000000 in
theorem back_wide (p : Option Addr) (n cap : Nat) (xs : List Nd) (hn : 130 < n) (w : World) (h : Nodes w p n xs) (hw : Fit4 w) :
    Calls Tryd.prog 4 #[.slice p n cap] w fun e w' => e = .returned (.bool true) ∧ Below w.heap.size w w' := by
  have HS := Lib.hid (shown3_c w hw)
  have hs := h.small
  have h1 : (130 : Int) < n := by omega
  clear h
  go_enter Tryd.func4, Tryd.ntmps4
  go_wp2_with fail
  refine HS.out.mono ?_
  rintro e w1 ⟨rfl, hB1⟩
  go_wp2
  go_ret
  exact ⟨rfl, hB1⟩

set_option maxRecDepth 100000 in
set_option maxHeartbeats 4000000 in
theorem back_none (p : Option Addr) (n cap : Nat) (xs : List Nd) (hn : n ≤ 130) (hp : ¬ ∃ t, IsPat xs t) (w : World) (h : Nodes w p n xs) (hw : Fit4 w) :
    Calls Tryd.prog 4 #[.slice p n cap] w fun e w' => e = .returned (.bool true) ∧ Below w.heap.size w w' := by
  have HS := Lib.hid (shown3_c w hw)
  have HT := Lib.hid fun w' h => text_out p n cap xs hp w' h
  have HP := Lib.hid fun w' (hf : Fit4 w') => parse_no [] (by simp) (fun ⟨t, _, ht⟩ => text_pos t ht) w' hf
  have HM := Lib.hid fun w' h => may_n p n cap xs false ⟨fun h => absurd h (by decide), fun h => absurd h hp⟩ w' h
  have HN := Lib.hid h
  have h1 : ((130 : Int) < n) = False := by simp; omega
  clear hp h
  go_enter Tryd.func4, Tryd.ntmps4
  go_wp2_with fail
  refine HS.out.mono ?_
  rintro e w1 ⟨rfl, hB1⟩
  go_wp2_with fail
  refine (HT.out w1 (HN.out.below hB1)).mono ?_
  rintro e w2 ⟨rfl, hB2⟩
  have hB12 := hB1.trans (hB2.mono hB1.size)
  clear HS HT hB2
  go_wp2_with fail
  refine (HP.out w2 (hw.below hB12)).mono ?_
  rintro e w3 ⟨rfl, hB3⟩
  have hB13 := hB12.trans (hB3.mono hB12.size)
  clear HP hB3
  go_wp2_with fail
  refine (HM.out w3 (HN.out.below hB13)).mono ?_
  rintro e w4 ⟨rfl, hB4⟩
  have hB14 := hB13.trans (hB4.mono hB13.size)
  clear HM hB4
  go_wp2
  go_ret
  exact ⟨rfl, hB14⟩

set_option maxRecDepth 100000 in
set_option maxHeartbeats 8000000 in
theorem back_pat (b o n cap : Nat) (xs : List Nd) (hlen : xs.length = n) (t : T) (hp : IsPat xs t) (hfit : ∀ (i : Nat) (x : Nd), xs[i]? = some x → x.Fits) (w : World) (hx : NodesAt w b o xs) (hw : Fit4 w) :
    Calls Tryd.prog 4 #[.slice (some ⟨b, o, none⟩) n cap] w fun e w' => e = .returned (.bool true) ∧ Below w.heap.size w w' := by
  have h120 : n ≤ 120 := by have := hp.2.2.2.1; omega
  have hts : t.size = n := by rw [hp.2.2.1, hlen]
  have h1 : 1 ≤ n := by have := t.size_pos; omega
  have htl := text_len t hp.1
  have hrx := rdx_text hp hfit
  have hN : ∀ w', NodesAt w' b o xs → Nodes w' (some ⟨b, o, none⟩) n xs := fun w' hx => nodes_of_at hlen (by omega) hfit hx
  have HS := Lib.hid (shown3_c w hw)
  have HT := Lib.hid fun w' (hf : Fit3 w') hx => text_in b o n cap xs hlen h1 h120 hfit t hp w' hf hx
  have hpy := fun w' (hf : Fit4 w') => parse_yes (text t) (by omega) t (by rw [hrx]; exact hp) rfl w' hf
  rw [hrx, hlen] at hpy
  have HP := Lib.hid hpy
  have HM := Lib.hid fun w' hx => may_n (some ⟨b, o, none⟩) n cap xs true ⟨fun _ => ⟨t, hp⟩, fun _ => rfl⟩ w' (hN w' hx)
  have HI := Lib.hid fun p cap w' (h : Nodes w' p n xs) => its_n p n cap xs (by omega) w' h
  have HE := Lib.hid fun p q cap cap' w' (h : Nodes w' p n xs) (h' : Nodes w' q n xs) => same_c p q n n cap cap' xs xs true (by simp) w' h h'
  have HF := Lib.hid hfit
  have HX := Lib.hid hN
  have hn1 : ((130 : Int) < n) = False := by simp; omega
  clear hp hts htl hrx hpy hfit hN
  generalize text t = tt at *
  have lb := hx.lt
  go_enter Tryd.func4, Tryd.ntmps4
  go_wp2_with fail
  refine HS.out.mono ?_
  rintro e w1 ⟨rfl, hB1⟩
  clear HS
  go_wp2_with fail
  refine (HT.out w1 (hw.below hB1).f (hx.below hB1 lb)).mono ?_
  rintro e w2 ⟨rfl, hB2⟩
  have hB12 := hB1.trans (hB2.mono hB1.size)
  clear HT hB2 hB1
  go_wp2_with fail
  refine (HP.out w2 (hw.below hB12)).mono ?_
  rintro e w3 ⟨⟨g, cap3, rfl, hg, hX⟩, hB3⟩
  have hB13 := hB12.trans (hB3.mono hB12.size)
  clear HP hB3 hB12
  go_wp2_with fail
  refine (HM.out w3 (hx.below hB13 lb)).mono ?_
  rintro e w4 ⟨rfl, hB4⟩
  have hX4 := hX.below hB4 hX.lt
  have hB14 := hB13.trans (hB4.mono hB13.size)
  clear HM hB4 hB13 hX
  go_wp2_with fail
  refine (HI.out _ cap3 w4 (nodes_of_at hlen (by omega) HF.out hX4)).mono ?_
  rintro e w5 ⟨⟨q, cap5, rfl, hQ⟩, hB5⟩
  have hB15 := hB14.trans (hB5.mono hB14.size)
  clear hB5 hB14 hX4
  go_wp2_with fail
  refine (HI.out _ cap w5 (HX.out _ (hx.below hB15 lb))).mono ?_
  rintro e w6 ⟨⟨q', cap6, rfl, hQ'⟩, hB6⟩
  have hQ6 := hQ.below hB6
  have hB16 := hB15.trans (hB6.mono hB15.size)
  clear hB6 hB15 hQ HI
  go_wp2_with fail
  refine (HE.out q q' cap5 cap6 w6 hQ6 hQ').mono ?_
  rintro e w7 ⟨rfl, hB7⟩
  clear HE hQ6 hQ'
  go_wp2
  go_ret
  exact ⟨rfl, hB16.trans (hB7.mono hB16.size)⟩

theorem rxBackW (p : Option Addr) (n cap : Nat) (xs : List Nd) (w : World) (h : Nodes w p n xs) (hw : Fit4 w) :
    Calls Tryd.prog 4 #[.slice p n cap] w fun e w' => e = .returned (.bool true) ∧ Below w.heap.size w w' := by
  by_cases hn : 130 < n
  · exact back_wide p n cap xs hn w h hw
  · by_cases hp : ∃ t, IsPat xs t
    · obtain ⟨t, ht⟩ := hp
      have h1 : 1 ≤ n := by have := ht.2.2.1; have := t.size_pos; have := h.len; omega
      obtain ⟨b, o, rfl⟩ := h.ptr h1
      exact back_pat b o n cap xs h.len t ht h.fits w (h.at' h1 b o rfl) hw
    · exact back_none p n cap xs (by omega) hp w h hw

end Go.Proofs.YtfkidgbjjlgjdaaDoor
