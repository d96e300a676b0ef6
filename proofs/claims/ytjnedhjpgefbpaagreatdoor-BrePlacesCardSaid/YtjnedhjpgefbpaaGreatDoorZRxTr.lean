/- read. -/
import Derived.Test.YtjnedhjpgefbpaaGreatDoorZRxTq
import Derived.Laws.EntriesVeiled
import Derived.Test.YtjnedhjpgefbpaaGreatDoorZRxTc
namespace Go.Proofs.YtjnedhjpgefbpaaGreatDoor
open Go.RowKit Go.Lib
set_option linter.unusedVariables false
set_option linter.unusedSimpArgs false

def allocs (w : World) : List Obj → World
  | [] => w
  | o :: l => allocs (w.alloc o) l
theorem allocs_old : ∀ (l : List Obj) (w : World) (k : Nat), k < w.heap.size → (allocs w l).heap[k]? = w.heap[k]?
  | [], w, k, h => rfl
  | o :: l, w, k, h => by
    show (allocs (w.alloc o) l).heap[k]? = _
    rw [allocs_old l (w.alloc o) k (by rw [World.size_alloc]; omega)]
    exact heap_alloc_lt _ _ _ h
theorem allocs_at : ∀ (l : List Obj) (w : World) (j : Nat), j < l.length → (allocs w l).heap[w.heap.size + j]? = l[j]?
  | [], w, j, h => by simp at h
  | o :: l, w, 0, h => by
    show (allocs (w.alloc o) l).heap[w.heap.size]? = _
    rw [allocs_old l (w.alloc o) _ (by rw [World.size_alloc]; omega)]
    exact heap_new w o
  | o :: l, w, j + 1, h => by
    show (allocs (w.alloc o) l).heap[w.heap.size + (j + 1)]? = l[j]?
    have := allocs_at l (w.alloc o) j (by simpa using h)
    rw [World.size_alloc] at this
    rw [← this]
    congr 1; omega
theorem allocs_below : ∀ (l : List Obj) (w : World) (B : Nat), B ≤ w.heap.size → Below B w (allocs w l)
  | [], w, B, h => Below.refl _ _
  | o :: l, w, B, h => ((Below.refl _ w).alloc h o).trans (allocs_below l (w.alloc o) B (by rw [World.size_alloc]; omega))

theorem rd_small (s : List UInt8) (hs : s.length < 4294967281) : Small 120 ⟨s, [], 0, 0⟩ (rd 120 ⟨s, [], 0, 0⟩).2 ∧ (rd 120 ⟨s, [], 0, 0⟩).2.xs.length ≤ 120 := by
  obtain ⟨x, g, b⟩ := rd_few 120 ⟨s, [], 0, 0⟩ (by simp)
  generalize (rd 120 ⟨s, [], 0, 0⟩).2 = τ at *
  simp at x g b
  exact ⟨⟨by simp, hs, by omega, by omega, by omega⟩, by omega⟩

end Go.Proofs.YtjnedhjpgefbpaaGreatDoor

namespace Go.Proofs.YtjnedhjpgefbpaaGreatDoor
open Go.RowKit Go.Lib
set_option linter.unusedVariables false
set_option linter.unusedSimpArgs false

/-- The nodes that read tells of a text. -/
def rdx (s : List UInt8) : List Nd := (rd 120 ⟨s, [], 0, 0⟩).2.xs
theorem rdx_len (s : List UInt8) (hs : s.length < 4294967281) : (rdx s).length ≤ 120 := (rd_small s hs).2
theorem rdx_fits (s : List UInt8) (hs : s.length < 4294967281) : ∀ (i : Nat) (x : Nd), (rdx s)[i]? = some x → x.Fits := fun i x h => by
  obtain ⟨⟨_, _, _, g, x1⟩, _⟩ := rd_small s hs
  exact (rd_fits 120 ⟨s, [], 0, 0⟩ (fun x hx => by simp at hx) x1 g).1 x (List.mem_of_getElem? h)
theorem IsPat.tfits {xs : List Nd} (hf : ∀ (i : Nat) (x : Nd), xs[i]? = some x → x.Fits) : ∀ (t : T) (o : Nat), T.At (fun i => xs[i]?) t o → TFits t
  | .leaf x, o, h => hf o x h
  | .two k a b, o, ⟨h1, h2, h3⟩ => ⟨IsPat.tfits hf a o h1, IsPat.tfits hf b _ h2⟩
  | .times m M t, o, ⟨h1, h3⟩ => IsPat.tfits hf t o h1
  | .group n t, o, ⟨h1, h3⟩ => IsPat.tfits hf t o h1
/-- **Of the text of a pattern: the pattern.** -/
theorem rdx_text {xs : List Nd} {t : T} (h : IsPat xs t) (hf : ∀ (i : Nat) (x : Nd), xs[i]? = some x → x.Fits) : rdx (text t) = xs := by
  have hn := h.nodes
  obtain ⟨ok, ha, hs, h120, _, _, hnum⟩ := h
  obtain ⟨u, hu⟩ := Option.isSome_iff_exists.1 hnum
  have := rd_text t 120 ⟨text t, [], 0, 0⟩ (fun _ => false) u [] ok (IsPat.tfits hf t 0 ha) hu (by simp) (by simp; omega) (by simp)
  unfold rdx
  rw [this]
  simp [← hn]

theorem nodes_of_own {w : World} {B n : Nat} {v : Value} {xs : List Nd} (h : w.ownsRow B 46 10 v n (flat xs)) (hn : xs.length = n) (hs : n ≤ 1000) (hf : ∀ (i : Nat) (x : Nd), xs[i]? = some x → x.Fits) :
    ∃ p cap, v = .slice p n cap ∧ Nodes w p n xs ∧ (1 ≤ n → ∃ g, p = some ⟨g, 0, none⟩ ∧ B ≤ g ∧ NodesAt w g 0 xs) := by
  rcases h.2 with ⟨rfl, rfl⟩ | ⟨g, cap, cur, rfl, hg, hb, _, _, hc, ht⟩
  · exact ⟨none, 0, rfl, ⟨hn, by omega, fun h => absurd h (by omega), fun h => absurd h (by omega), hf⟩, fun h => absurd h (by omega)⟩
  · have hN : NodesAt w g 0 xs := ⟨(Array.getElem?_eq_some_iff.1 hb).1, fun i x hx j u hj => by
      have hi : i < xs.length := (List.getElem?_eq_some_iff.1 hx).1
      have hj10 : j < 10 := by
        have := (Array.getElem?_eq_some_iff.1 hj).1
        simpa [Nd.cells] using this
      rw [cell_of _ _ _ _ hb, Nat.zero_add]
      have e1 := flat_get xs i j x hx hj10
      rw [hj] at e1
      have : (cur.toList.take (n * 10))[i * 10 + j]? = (flat xs)[i * 10 + j]? := by rw [ht]
      rw [List.getElem?_take_of_lt (by omega), e1] at this
      rw [← this]
      simp⟩
    refine ⟨some ⟨g, 0, none⟩, cap, rfl, ⟨hn, by omega, fun _ => ⟨g, 0, rfl⟩, fun _ b o e => ?_, hf⟩, fun _ => ⟨g, rfl, hg, hN⟩⟩
    simp only [Option.some.injEq, Addr.mk.injEq] at e
    obtain ⟨rfl, rfl, _⟩ := e
    exact hN

/-- What Parse reads of the world. -/
structure Fit4 (w : World) : Prop where
  f : Fit3 w
  v : Vars w
theorem Fit4.below {w w' : World} (h : Fit4 w) (hB : Below w.heap.size w w') : Fit4 w' := ⟨h.f.below hB, h.v.below hB⟩

end Go.Proofs.YtjnedhjpgefbpaaGreatDoor
