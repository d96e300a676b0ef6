/- The reference's look, May, Text. -/
import Derived.Test.YthbldjiibgnfmaaGreatDoorZRxRa
import Derived.Test.YthbldjiibgnfmaaGreatDoorZRxFp
import Derived.Test.YthbldjiibgnfmaaGreatDoorZRxL
import Derived.Test.YthbldjiibgnfmaaGreatDoorZRxIt
import Derived.BigQuiet
namespace Go.Proofs.YthbldjiibgnfmaaGreatDoor
open Go.RowKit
set_option linter.unusedVariables false
set_option linter.unusedSimpArgs false

/-- A tree's nodes keep to where they stand, just if the tree does. -/
theorem tOk_nodes {xs : List Nd} {one : Bool} (h1 : one = true ↔ xs.length = 1) : ∀ (t : T) (o : Nat), t.Ok → T.At (fun i => xs[i]?) t o → (tOk one t ↔ ∀ i, o ≤ i → i < o + t.size → ∀ x, xs[i]? = some x → pOk xs x)
  | .leaf x, o, ok, ha => by
    have hx : xs[o]? = some x := ha
    have hk := ok.2
    simp only [tOk, T.size]
    constructor
    · intro h i hi hi2 y hy
      obtain rfl : i = o := by omega
      rw [hx] at hy
      cases hy
      unfold pOk
      by_cases h0 : x.kind = 0
      · rw [if_pos h0]; exact h1.1 (h h0)
      · rw [if_neg h0, if_neg (by omega), if_neg (by omega), if_neg (by omega)]
        trivial
    · intro h h0
      have := h o (by omega) (by omega) x hx
      unfold pOk at this
      rw [if_pos h0] at this
      exact h1.2 this
  | .two k a b, o, ok, ⟨ha, hb, hr⟩ => by
    have iha := tOk_nodes h1 a o ok.2.1 ha
    have ihb := tOk_nodes h1 b (o + a.size) ok.2.2 hb
    have ra := ha.root
    have rb := hb.root
    have sa := a.size_pos
    have sb := b.size_pos
    have ka : kindAt xs ((o : Int) + a.size - 1) = rk a := by
      unfold kindAt
      rw [show ((o : Int) + a.size - 1).toNat = o + a.size - 1 by omega]
      have : xs[o + a.size - 1]? = some (a.root o) := ra
      rw [this]
      exact rk_root a o
    have kb : kindAt xs ((o : Int) + a.size + b.size - 1) = rk b := by
      unfold kindAt
      rw [show ((o : Int) + a.size + b.size - 1).toNat = o + a.size + b.size - 1 by omega]
      have : xs[o + a.size + b.size - 1]? = some (b.root (o + a.size)) := rb
      rw [this]
      exact rk_root b _
    have hroot : pOk xs (T.root (.two k a b) o) ↔ okTwo k a b = true := by
      unfold pOk okTwo
      simp only [T.root, ka, kb]
      rcases ok.1 with rfl | rfl
      · simp
        constructor
        · rintro ⟨q1, q2, q3⟩; exact ⟨⟨q1, q2⟩, q3⟩
        · rintro ⟨⟨q1, q2⟩, q3⟩; exact ⟨q1, q2, q3⟩
      · simp
    simp only [tOk, T.size]
    rw [iha, ihb, ← hroot]
    constructor
    · rintro ⟨p1, p2, p3⟩ i hi hi2 x hx
      by_cases c1 : i < o + a.size
      · exact p2 i hi c1 x hx
      by_cases c2 : i < o + a.size + b.size
      · exact p3 i (by omega) c2 x hx
      obtain rfl : i = o + a.size + b.size := by omega
      have : xs[o + a.size + b.size]? = some (T.root (.two k a b) o) := hr
      rw [this] at hx
      cases hx
      exact p1
    · intro h
      refine ⟨h (o + a.size + b.size) (by omega) (by omega) _ hr, fun i hi hi2 => h i hi (by omega), fun i hi hi2 => h i (by omega) (by omega)⟩
  | .times m M t, o, ok, ⟨ha, hr⟩ => by
    have ih := tOk_nodes h1 t o ok.2 ha
    have ra := ha.root
    have sa := t.size_pos
    have ka : kindAt xs ((o : Int) + t.size - 1) = rk t := by
      unfold kindAt
      rw [show ((o : Int) + t.size - 1).toNat = o + t.size - 1 by omega]
      have : xs[o + t.size - 1]? = some (t.root o) := ra
      rw [this]
      exact rk_root t o
    have hroot : pOk xs (T.root (.times m M t) o) ↔ okTimes t = true := by
      unfold pOk okTimes
      simp only [T.root, ka]
      simp
      constructor
      · rintro (q | q | q)
        · exact .inl (.inl q)
        · exact .inl (.inr q)
        · exact .inr q
      · rintro ((q | q) | q)
        · exact .inl q
        · exact .inr (.inl q)
        · exact .inr (.inr q)
    simp only [tOk, T.size]
    rw [ih, ← hroot]
    constructor
    · rintro ⟨p1, p2⟩ i hi hi2 x hx
      by_cases c1 : i < o + t.size
      · exact p2 i hi c1 x hx
      obtain rfl : i = o + t.size := by omega
      have : xs[o + t.size]? = some (T.root (.times m M t) o) := hr
      rw [this] at hx
      cases hx
      exact p1
    · intro h
      exact ⟨h (o + t.size) (by omega) (by omega) _ hr, fun i hi hi2 => h i hi (by omega)⟩
  | .group n t, o, ok, ⟨ha, hr⟩ => by
    have ih := tOk_nodes h1 t o ok.2 ha
    have sa := t.size_pos
    have hroot : pOk xs (T.root (.group n t) o) := by
      unfold pOk
      simp only [T.root]
      simp
    simp only [tOk, T.size]
    rw [ih]
    constructor
    · intro p2 i hi hi2 x hx
      by_cases c1 : i < o + t.size
      · exact p2 i hi c1 x hx
      obtain rfl : i = o + t.size := by omega
      have : xs[o + t.size]? = some (T.root (.group n t) o) := hr
      rw [this] at hx
      cases hx
      exact hroot
    · intro h i hi hi2
      exact h i hi (by omega)

def wk0 : Wk := ⟨false, 0, fun _ => false, false⟩
def wk1 : Wk := ⟨true, 0, fun _ => false, false⟩
/-- A whole tree is a pattern, just if what through finds is good. -/
theorem thr_pat {xs : List Nd} {t : T} (hok : t.Ok) (ha : T.At (fun i => xs[i]?) t 0) (hs : t.size = xs.length) (h120 : xs.length ≤ 120) (hnd : ∀ (i : Nat) (x : Nd), xs[i]? = some x → isNd x = true) : (thr (decide (xs.length = 1)) t wk1).g = true ↔ IsPat xs t := by
  rw [(thr_good _ t wk1).1, tOk_nodes (xs := xs) (by simp) t 0 hok ha]
  constructor
  · rintro ⟨_, h2, h3⟩
    refine ⟨hok, ha, hs, h120, hnd, fun i x hx => ?_, h3⟩
    have hi : i < xs.length := (List.getElem?_eq_some_iff.1 hx).1
    exact h2 i (by omega) (by omega) x hx
  · rintro ⟨_, _, _, _, _, h6, h7⟩
    exact ⟨rfl, fun i _ _ x hx => h6 i x hx, h7⟩

end Go.Proofs.YthbldjiibgnfmaaGreatDoor

namespace Go.Proofs.YthbldjiibgnfmaaGreatDoor
open Go.RowKit
set_option linter.unusedVariables false
set_option linter.unusedSimpArgs false

theorem nodes_of_at {w : World} {b o n : Nat} {xs : List Nd} (hlen : xs.length = n) (hn : n ≤ 1000) (hfit : ∀ (i : Nat) (x : Nd), xs[i]? = some x → x.Fits) (hx : NodesAt w b o xs) : Nodes w (some ⟨b, o, none⟩) n xs :=
  ⟨hlen, by omega, fun _ => ⟨b, o, rfl⟩, fun _ b' o' e => by
    simp only [Option.some.injEq, Addr.mk.injEq] at e
    obtain ⟨rfl, rfl, _⟩ := e
    exact hx, hfit⟩

end Go.Proofs.YthbldjiibgnfmaaGreatDoor
