/- RxApart: the walk. -/
import Derived.Test.YtfkidgbjjlgjdaaDoorZRxTs
import Derived.Test.YtfkidgbjjlgjdaaDoorZRxSm
import Derived.Test.YtfkidgbjjlgjdaaDoorZRxBk
namespace Go.Proofs.YtfkidgbjjlgjdaaDoor
open Go.RowKit
set_option linter.unusedVariables false
set_option linter.unusedSimpArgs false

set_option maxRecDepth 100000 in
set_option maxHeartbeats 4000000 in
theorem apart_wide1 (p q : Option Addr) (n m cap cap' : Nat) (xs ys : List Nd) (hn : 130 < n) (w : World) (h : Nodes w p n xs) (h' : Nodes w q m ys) (hw : Fit4 w) :
    Calls Tryd.prog 6 #[.slice p n cap, .slice q m cap'] w fun e w' => e = .returned (.bool true) ∧ Below w.heap.size w w' := by
  have HS := Lib.hid (shown3_c w hw)
  have hs := h.small
  have h1 : (130 : Int) < n := by omega
  clear h h'
  go_enter Tryd.func6, Tryd.ntmps6
  go_wp2_with fail
  refine HS.out.mono ?_
  rintro e w1 ⟨rfl, hB1⟩
  go_wp2
  go_ret
  exact ⟨rfl, hB1⟩

set_option maxRecDepth 100000 in
set_option maxHeartbeats 4000000 in
theorem apart_wide2 (p q : Option Addr) (n m cap cap' : Nat) (xs ys : List Nd) (hn : n ≤ 130) (hm : 130 < m) (w : World) (h : Nodes w p n xs) (h' : Nodes w q m ys) (hw : Fit4 w) :
    Calls Tryd.prog 6 #[.slice p n cap, .slice q m cap'] w fun e w' => e = .returned (.bool true) ∧ Below w.heap.size w w' := by
  have HS := Lib.hid (shown3_c w hw)
  have hs := h'.small
  have h1 : ((130 : Int) < n) = False := by simp; omega
  have h2 : (130 : Int) < m := by omega
  clear h h'
  go_enter Tryd.func6, Tryd.ntmps6
  go_wp2_with fail
  refine HS.out.mono ?_
  rintro e w1 ⟨rfl, hB1⟩
  go_wp2
  go_ret
  exact ⟨rfl, hB1⟩

set_option maxRecDepth 100000 in
set_option maxHeartbeats 4000000 in
theorem apart_none1 (p q : Option Addr) (n m cap cap' : Nat) (xs ys : List Nd) (hn : n ≤ 130) (hm : m ≤ 130) (hp : ¬ ∃ t, IsPat xs t) (w : World) (h : Nodes w p n xs) (h' : Nodes w q m ys) (hw : Fit4 w) :
    Calls Tryd.prog 6 #[.slice p n cap, .slice q m cap'] w fun e w' => e = .returned (.bool true) ∧ Below w.heap.size w w' := by
  have HM := Lib.hid (may_n p n cap xs false ⟨fun h => absurd h (by decide), fun h => absurd h hp⟩ w h)
  have HS := Lib.hid fun w' hB => shown3_c w' (hw.below hB)
  have h1 : ((130 : Int) < n) = False := by simp; omega
  have h2 : ((130 : Int) < m) = False := by simp; omega
  clear h h' hp
  go_enter Tryd.func6, Tryd.ntmps6
  go_wp2_with fail
  refine HM.out.mono ?_
  rintro e w1 ⟨rfl, hB1⟩
  go_wp2_with fail
  refine (HS.out w1 hB1).mono ?_
  rintro e w2 ⟨rfl, hB2⟩
  go_wp2
  go_ret
  exact ⟨rfl, hB1.trans (hB2.mono hB1.size)⟩

set_option maxRecDepth 100000 in
set_option maxHeartbeats 4000000 in
theorem apart_none2 (p q : Option Addr) (n m cap cap' : Nat) (xs ys : List Nd) (hn : n ≤ 130) (hm : m ≤ 130) (hp : ∃ t, IsPat xs t) (hq : ¬ ∃ t, IsPat ys t) (w : World) (h : Nodes w p n xs) (h' : Nodes w q m ys) (hw : Fit4 w) :
    Calls Tryd.prog 6 #[.slice p n cap, .slice q m cap'] w fun e w' => e = .returned (.bool true) ∧ Below w.heap.size w w' := by
  have HM := Lib.hid (may_n p n cap xs true ⟨fun _ => hp, fun _ => rfl⟩ w h)
  have HM2 := Lib.hid fun w' h => may_n q m cap' ys false ⟨fun h => absurd h (by decide), fun h => absurd h hq⟩ w' h
  have HS := Lib.hid fun w' hB => shown3_c w' (hw.below hB)
  have HN := Lib.hid h'
  have h1 : ((130 : Int) < n) = False := by simp; omega
  have h2 : ((130 : Int) < m) = False := by simp; omega
  clear h h' hp hq
  go_enter Tryd.func6, Tryd.ntmps6
  go_wp2_with fail
  refine HM.out.mono ?_
  rintro e w1 ⟨rfl, hB1⟩
  clear HM
  go_wp2_with fail
  refine (HM2.out w1 (HN.out.below hB1)).mono ?_
  rintro e w2 ⟨rfl, hB2⟩
  have hB12 := hB1.trans (hB2.mono hB1.size)
  clear HM2
  go_wp2_with fail
  refine (HS.out w2 hB12).mono ?_
  rintro e w3 ⟨rfl, hB3⟩
  go_wp2
  go_ret
  exact ⟨rfl, hB12.trans (hB3.mono hB12.size)⟩

/-- Two patterns' texts are one just where they are. -/
theorem texts_one {xs ys : List Nd} {t t' : T} (hp : IsPat xs t) (hq : IsPat ys t') (hf : ∀ (i : Nat) (x : Nd), xs[i]? = some x → x.Fits) (hf' : ∀ (i : Nat) (x : Nd), ys[i]? = some x → x.Fits) : text t = text t' ↔ xs = ys := by
  constructor
  · intro e
    rw [← rdx_text hp hf, e, rdx_text hq hf']
  · intro e
    subst e
    have := (T.uniq _ t t' 0 0 hp.1 hq.1 hp.2.1 hq.2.1 (by rw [hp.2.2.1, hq.2.2.1])).1
    rw [this]

set_option maxRecDepth 100000 in
set_option maxHeartbeats 8000000 in
theorem apart_pat (b o b' o' n m cap cap' : Nat) (xs ys : List Nd) (hlen : xs.length = n) (hlen' : ys.length = m) (t t' : T) (hp : IsPat xs t) (hq : IsPat ys t') (hfit : ∀ (i : Nat) (x : Nd), xs[i]? = some x → x.Fits) (hfit' : ∀ (i : Nat) (x : Nd), ys[i]? = some x → x.Fits)
    (w : World) (hx : NodesAt w b o xs) (hy : NodesAt w b' o' ys) (hw : Fit4 w) :
    Calls Tryd.prog 6 #[.slice (some ⟨b, o, none⟩) n cap, .slice (some ⟨b', o', none⟩) m cap'] w fun e w' => e = .returned (.bool true) ∧ Below w.heap.size w w' := by
  have h120 : n ≤ 120 := by have := hp.2.2.2.1; omega
  have h120' : m ≤ 120 := by have := hq.2.2.2.1; omega
  have h1 : 1 ≤ n := by have := t.size_pos; have := hp.2.2.1; omega
  have h1' : 1 ≤ m := by have := t'.size_pos; have := hq.2.2.1; omega
  have hN : ∀ w', NodesAt w' b o xs → Nodes w' (some ⟨b, o, none⟩) n xs := fun w' hx => nodes_of_at hlen (by omega) hfit hx
  have hN' : ∀ w', NodesAt w' b' o' ys → Nodes w' (some ⟨b', o', none⟩) m ys := fun w' hx => nodes_of_at hlen' (by omega) hfit' hx
  have HS := Lib.hid fun w' hB => shown3_c w' (hw.below hB)
  have HT := Lib.hid fun w' (hf : Fit3 w') hx => text_in b o n cap xs hlen h1 h120 hfit t hp w' hf hx
  have HT' := Lib.hid fun w' (hf : Fit3 w') hx => text_in b' o' m cap' ys hlen' h1' h120' hfit' t' hq w' hf hx
  have HM := Lib.hid fun w' hx => may_n (some ⟨b, o, none⟩) n cap xs true ⟨fun _ => ⟨t, hp⟩, fun _ => rfl⟩ w' (hN w' hx)
  have HM' := Lib.hid fun w' hx => may_n (some ⟨b', o', none⟩) m cap' ys true ⟨fun _ => ⟨t', hq⟩, fun _ => rfl⟩ w' (hN' w' hx)
  have HI := Lib.hid fun w' hx => its_n (some ⟨b, o, none⟩) n cap xs (by omega) w' (hN w' hx)
  have HI' := Lib.hid fun w' hx => its_n (some ⟨b', o', none⟩) m cap' ys (by omega) w' (hN' w' hx)
  have hone := texts_one hp hq hfit hfit'
  have hn1 : ((130 : Int) < n) = False := by simp; omega
  have hm1 : ((130 : Int) < m) = False := by simp; omega
  obtain ⟨r, hr, hrt⟩ : ∃ r : Bool, (r = true ↔ xs = ys) ∧ (text t == text t') = r := by
    refine ⟨text t == text t', ?_, rfl⟩
    rw [← hone]; simp
  have HE := Lib.hid fun p q cap cap' w' (h : Nodes w' p n xs) (h' : Nodes w' q m ys) => same_c p q n m cap cap' xs ys r hr w' h h'
  clear hp hq hfit hfit' hone hr hN hN'
  generalize text t = tt at *
  generalize text t' = tt' at *
  have lb := hx.lt
  have lb' := hy.lt
  have hrr : (r == r) = true := by simp
  go_enter Tryd.func6, Tryd.ntmps6
  go_wp2_with fail
  refine (HM.out w hx).mono ?_
  rintro e w1 ⟨rfl, hB1⟩
  clear HM
  go_wp2_with fail
  refine (HM'.out w1 (hy.below hB1 lb')).mono ?_
  rintro e w2 ⟨rfl, hB2⟩
  have hB12 := hB1.trans (hB2.mono hB1.size)
  clear HM' hB2 hB1
  go_wp2_with fail
  refine (HS.out w2 hB12).mono ?_
  rintro e w3 ⟨rfl, hB3⟩
  have hB13 := hB12.trans (hB3.mono hB12.size)
  clear HS hB3 hB12
  go_wp2_with fail
  refine (HT.out w3 (hw.below hB13).f (hx.below hB13 lb)).mono ?_
  rintro e w4 ⟨rfl, hB4⟩
  have hB14 := hB13.trans (hB4.mono hB13.size)
  clear HT hB4 hB13
  go_wp2_with fail
  refine (HT'.out w4 (hw.below hB14).f (hy.below hB14 lb')).mono ?_
  rintro e w5 ⟨rfl, hB5⟩
  have hB15 := hB14.trans (hB5.mono hB14.size)
  clear HT' hB5 hB14
  go_wp2_with fail
  refine (HI.out w5 (hx.below hB15 lb)).mono ?_
  rintro e w6 ⟨⟨q, cap6, rfl, hQ⟩, hB6⟩
  have hB16 := hB15.trans (hB6.mono hB15.size)
  clear HI hB6 hB15
  go_wp2_with fail
  refine (HI'.out w6 (hy.below hB16 lb')).mono ?_
  rintro e w7 ⟨⟨q', cap7, rfl, hQ'⟩, hB7⟩
  have hQ7 := hQ.below hB7
  have hB17 := hB16.trans (hB7.mono hB16.size)
  clear HI' hB7 hB16 hQ
  go_wp2_with fail
  refine (HE.out q q' cap6 cap7 w7 hQ7 hQ').mono ?_
  rintro e w8 ⟨rfl, hB8⟩
  have hB18 := hB17.trans (hB8.mono hB17.size)
  clear HE hQ7 hQ' hB8 hB17
  go_wp2
  go_ret
  exact ⟨by first | rfl | simp, hB18⟩

theorem rxApartW (p : Option Addr) (n cap : Nat) (xs : List Nd) (q : Option Addr) (m cap' : Nat) (ys : List Nd) (w : World) (h : Nodes w p n xs) (h' : Nodes w q m ys) (hw : Fit4 w) :
    Calls Tryd.prog 6 #[.slice p n cap, .slice q m cap'] w fun e w' => e = .returned (.bool true) ∧ Below w.heap.size w w' := by
  by_cases hn : 130 < n
  · exact apart_wide1 p q n m cap cap' xs ys hn w h h' hw
  by_cases hm : 130 < m
  · exact apart_wide2 p q n m cap cap' xs ys (by omega) hm w h h' hw
  by_cases hp : ∃ t, IsPat xs t
  · by_cases hq : ∃ t, IsPat ys t
    · obtain ⟨t, ht⟩ := hp
      obtain ⟨t', ht'⟩ := hq
      have h1 : 1 ≤ n := by have := ht.2.2.1; have := t.size_pos; have := h.len; omega
      have h1' : 1 ≤ m := by have := ht'.2.2.1; have := t'.size_pos; have := h'.len; omega
      obtain ⟨b, o, rfl⟩ := h.ptr h1
      obtain ⟨b', o', rfl⟩ := h'.ptr h1'
      exact apart_pat b o b' o' n m cap cap' xs ys h.len h'.len t t' ht ht' h.fits h'.fits w (h.at' h1 b o rfl) (h'.at' h1' b' o' rfl) hw
    · exact apart_none2 p q n m cap cap' xs ys (by omega) (by omega) hp hq w h h' hw
  · exact apart_none1 p q n m cap cap' xs ys (by omega) (by omega) hp w h h' hw

end Go.Proofs.YtfkidgbjjlgjdaaDoor
