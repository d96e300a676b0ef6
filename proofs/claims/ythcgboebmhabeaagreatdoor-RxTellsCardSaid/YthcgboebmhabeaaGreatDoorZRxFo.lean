/- RxFolds: the walk. -/
import Derived.Test.YthcgboebmhabeaaGreatDoorZRxTs
import Derived.Test.YthcgboebmhabeaaGreatDoorZRxFp
import Derived.Test.YthcgboebmhabeaaGreatDoorZRxBk
import Derived.Deep.RegionHeld3
namespace Go.Proofs.YthcgboebmhabeaaGreatDoor
open Go.RowKit
set_option linter.unusedVariables false
set_option linter.unusedSimpArgs false

/-- Groups and Refs of a pattern, by its tree. -/
theorem groups_t (b o n cap : Nat) (xs : List Nd) (hlen : xs.length = n) (hn : n ≤ 120) (hfit : ∀ (i : Nat) (x : Nd), xs[i]? = some x → x.Fits) (t : T) (hp : IsPat xs t) (w : World) (hx : NodesAt w b o xs) :
    Calls Tryz.prog 8 #[.slice (some ⟨b, o, none⟩) n cap] w fun e w' => e = .returned (.int .i64 t.groups) ∧ Below w.heap.size w w' := by
  have h1 : 1 ≤ n := by have := t.size_pos; have := hp.2.2.1; omega
  have h := groups_in b o n cap xs hlen h1 hn hfit ⟨t, hp⟩ w hx
  obtain ⟨tn1, _⟩ := tree_nodes t 0 hp.1 hp.2.1
  rw [Nat.zero_add, hp.2.2.1, hlen] at tn1
  have g0 : gcnt xs 0 = 0 := rfl
  rw [tn1, g0, Nat.zero_add] at h
  exact h
theorem refs_t (b o n cap : Nat) (xs : List Nd) (hlen : xs.length = n) (hn : n ≤ 120) (hfit : ∀ (i : Nat) (x : Nd), xs[i]? = some x → x.Fits) (t : T) (hp : IsPat xs t) (w : World) (hx : NodesAt w b o xs) :
    Calls Tryz.prog 10 #[.slice (some ⟨b, o, none⟩) n cap] w fun e w' => e = .returned (.bool (decide (0 < t.refs))) ∧ Below w.heap.size w w' := by
  have h1 : 1 ≤ n := by have := t.size_pos; have := hp.2.2.1; omega
  obtain ⟨_, tn2⟩ := tree_nodes t 0 hp.1 hp.2.1
  rw [Nat.zero_add, hp.2.2.1, hlen] at tn2
  have hany : anyRef xs n ↔ 0 < t.refs := by
    rw [tn2]
    constructor
    · rintro (⟨i, x, h1, h2⟩ | h)
      · omega
      · exact h
    · exact .inr
  exact refs_in b o n cap xs hlen h1 hn hfit ⟨t, hp⟩ (decide (0 < t.refs)) (by rw [hany]; simp) w hx

/-- What holds while the sets are held against each other. -/
structure FoS (w : World) (b o g : Nat) (xs : List Nd) (w' : World) : Prop where
  x : NodesAt w' b o xs
  f : NodesAt w' g 0 (xs.map foldNd)
  b : Below w.heap.size w w'
theorem FoS.step {w w1 w2 : World} {b o g : Nat} {xs : List Nd} (h : FoS w b o g xs w1) (hB : Below w1.heap.size w1 w2) : FoS w b o g xs w2 :=
  ⟨h.x.below hB h.x.lt, h.f.below hB h.f.lt, h.b.trans (hB.mono h.b.size)⟩
theorem FoS.drew {w w1 : World} {b o g : Nat} {xs : List Nd} (h : FoS w b o g xs w1) : FoS w b o g xs w1.drew := h.step ((Below.refl _ _).drew)
theorem FoS.alloc {w w1 : World} {b o g : Nat} {xs : List Nd} (h : FoS w b o g xs w1) (ob : Obj) : FoS w b o g xs (w1.alloc ob) := h.step ((Below.refl _ _).alloc (Nat.le_refl _) ob)
end Go.Proofs.YthcgboebmhabeaaGreatDoor
