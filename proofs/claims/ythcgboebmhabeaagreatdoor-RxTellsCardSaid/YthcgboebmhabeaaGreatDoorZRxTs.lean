/- read. -/
import Derived.Test.YthcgboebmhabeaaGreatDoorZRxTq
import Derived.Laws.EntriesVeiled
import Derived.Test.YthcgboebmhabeaaGreatDoorZRxTc
import Derived.Test.YthcgboebmhabeaaGreatDoorZRxK
namespace Go.Proofs.YthcgboebmhabeaaGreatDoor
open Go.RowKit Go.Lib
set_option linter.unusedVariables false
set_option linter.unusedSimpArgs false

def allocs (w : World) : List Obj → World
  | [] => w
  | o :: l => allocs (w.alloc o) l
theorem allocs_old : ∀ (l : List Obj) (w : World) (k : Nat), k < w.heap.size → (allocs w l).heap[k]? = w.heap[k]?
  | [], w, k, h => rfl
  | o :: l, w, k, h => by
    show (allocs (w.alloc o) l).heap[k]? = _
    rw [allocs_old l (w.alloc o) k (by rw [World.size_alloc]; omega)]
    exact heap_alloc_lt _ _ _ h
theorem allocs_at : ∀ (l : List Obj) (w : World) (j : Nat), j < l.length → (allocs w l).heap[w.heap.size + j]? = l[j]?
  | [], w, j, h => by simp at h
  | o :: l, w, 0, h => by
    show (allocs (w.alloc o) l).heap[w.heap.size]? = _
    rw [allocs_old l (w.alloc o) _ (by rw [World.size_alloc]; omega)]
    exact heap_new w o
  | o :: l, w, j + 1, h => by
    show (allocs (w.alloc o) l).heap[w.heap.size + (j + 1)]? = l[j]?
    have := allocs_at l (w.alloc o) j (by simpa using h)
    rw [World.size_alloc] at this
    rw [← this]
    congr 1; omega
theorem allocs_below : ∀ (l : List Obj) (w : World) (B : Nat), B ≤ w.heap.size → Below B w (allocs w l)
  | [], w, B, h => Below.refl _ _
  | o :: l, w, B, h => ((Below.refl _ w).alloc h o).trans (allocs_below l (w.alloc o) B (by rw [World.size_alloc]; omega))

theorem rd_small (s : List UInt8) (hs : s.length < 4294967281) : Small 120 ⟨s, [], 0, 0⟩ (rd 120 ⟨s, [], 0, 0⟩).2 ∧ (rd 120 ⟨s, [], 0, 0⟩).2.xs.length ≤ 120 := by
  obtain ⟨x, g, b⟩ := rd_few 120 ⟨s, [], 0, 0⟩ (by simp)
  generalize (rd 120 ⟨s, [], 0, 0⟩).2 = τ at *
  simp at x g b
  exact ⟨⟨by simp, hs, by omega, by omega, by omega⟩, by omega⟩

set_option maxRecDepth 100000 in
set_option maxHeartbeats 4000000 in
theorem read_c (s : List UInt8) (hs : s.length < 4294967281) (w : World) (hv : Vars w) :
    Calls Tryz.prog 37 #[.string ⟨s.toArray⟩] w fun e w' => (∃ v, e = .returned v ∧ w'.ownsRow (w.heap.size + 9) 42 10 v (rd 120 ⟨s, [], 0, 0⟩).2.xs.length (flat (rd 120 ⟨s, [], 0, 0⟩).2.xs)) ∧ Below w.heap.size w w' := by
  have h0 : ∃ V, V = allocs w [.cells #[.string ⟨s.toArray⟩] 90, .cells #[.slice none 0 0] 22, .cells #[.int .i64 0] 3, .cells #[.int .i64 0] 3,
      .cells #[.func (.func 55) #[] #[.pointer (some ⟨w.heap.size + 1, 0, none⟩)]] 91,
      .cells #[.func (.func 61) #[] #[.pointer (some ⟨w.heap.size + 1 + 1, 0, none⟩), .pointer (some ⟨w.heap.size, 0, none⟩), .pointer (some ⟨w.heap.size + 1 + 1 + 1 + 1, 0, none⟩), .pointer (some ⟨w.heap.size + 1 + 1 + 1 + 1 + 1 + 1, 0, none⟩), .pointer (some ⟨w.heap.size + 1 + 1 + 1 + 1 + 1 + 1 + 1, 0, none⟩), .pointer (some ⟨w.heap.size + 1 + 1 + 1 + 1 + 1 + 1 + 1 + 1, 0, none⟩)]] 92,
      .cells #[.func (.func 56) #[] #[.pointer (some ⟨w.heap.size + 1 + 1 + 1 + 1 + 1, 0, none⟩), .pointer (some ⟨w.heap.size + 1 + 1 + 1 + 1, 0, none⟩)]] 93,
      .cells #[.func (.func 57) #[] #[.pointer (some ⟨w.heap.size, 0, none⟩), .pointer (some ⟨w.heap.size + 1 + 1 + 1 + 1, 0, none⟩), .pointer (some ⟨w.heap.size + 1 + 1 + 1 + 1 + 1, 0, none⟩)]] 92,
      .cells #[.func (.func 59) #[] #[.pointer (some ⟨w.heap.size + 1 + 1 + 1, 0, none⟩), .pointer (some ⟨w.heap.size + 1 + 1 + 1 + 1 + 1, 0, none⟩), .pointer (some ⟨w.heap.size, 0, none⟩), .pointer (some ⟨w.heap.size + 1 + 1 + 1 + 1, 0, none⟩)]] 92] := ⟨_, rfl⟩
  obtain ⟨V, hV⟩ := h0
  have hB := allocs_below _ w w.heap.size (Nat.le_refl _) |> fun h => hV ▸ h
  have hE : RE w w.heap.size ⟨s, [], 0, 0⟩ V := by
    rw [hV]
    refine ⟨?_, ⟨.slice none 0 0, ?_, World.ownsRow_nil _ _ _ _⟩, ?_, ?_, ?_, ?_, ?_, ?_, ?_, allocs_below _ _ _ (Nat.le_refl _), Nat.le_refl _, hv⟩
    · exact allocs_at _ w 0 (by simp)
    · exact allocs_at _ w 1 (by simp)
    · exact allocs_at _ w 2 (by simp)
    · exact allocs_at _ w 3 (by simp)
    · exact allocs_at _ w 4 (by simp)
    · exact allocs_at _ w 5 (by simp)
    · exact allocs_at _ w 6 (by simp)
    · exact allocs_at _ w 7 (by simp)
    · exact allocs_at _ w 8 (by simp)
  have NA := Lib.hid (node_all w w.heap.size 120 ⟨s, [], 0, 0⟩ V (rd_small s hs).1 hE)
  rw [hV] at NA hB
  unfold allocs allocs allocs allocs allocs allocs allocs allocs allocs allocs at NA hB
  clear hE hV hv
  go_enter Tryz.func37, Tryz.ntmps37
  go_wp2_with fail
  refine NA.out.mono ?_
  rintro e w1 ⟨rfl, h1, hB1⟩
  obtain ⟨v, h2, h3⟩ := h1.l
  have c1 := heap1 h2
  have f1 := frozen_of _ _ _ _ h2 0
  clear NA h1 h2
  go_wp2
  go_ret
  exact ⟨⟨_, rfl, h3⟩, hB.trans hB1⟩

end Go.Proofs.YthcgboebmhabeaaGreatDoor

namespace Go.Proofs.YthcgboebmhabeaaGreatDoor
open Go.RowKit Go.Lib
set_option linter.unusedVariables false
set_option linter.unusedSimpArgs false

/-- The nodes that read tells of a text. -/
def rdx (s : List UInt8) : List Nd := (rd 120 ⟨s, [], 0, 0⟩).2.xs
theorem rdx_len (s : List UInt8) (hs : s.length < 4294967281) : (rdx s).length ≤ 120 := (rd_small s hs).2
theorem rdx_fits (s : List UInt8) (hs : s.length < 4294967281) : ∀ (i : Nat) (x : Nd), (rdx s)[i]? = some x → x.Fits := fun i x h => by
  obtain ⟨⟨_, _, _, g, x1⟩, _⟩ := rd_small s hs
  exact (rd_fits 120 ⟨s, [], 0, 0⟩ (fun x hx => by simp at hx) x1 g).1 x (List.mem_of_getElem? h)
theorem IsPat.tfits {xs : List Nd} (hf : ∀ (i : Nat) (x : Nd), xs[i]? = some x → x.Fits) : ∀ (t : T) (o : Nat), T.At (fun i => xs[i]?) t o → TFits t
  | .leaf x, o, h => hf o x h
  | .two k a b, o, ⟨h1, h2, h3⟩ => ⟨IsPat.tfits hf a o h1, IsPat.tfits hf b _ h2⟩
  | .times m M t, o, ⟨h1, h3⟩ => IsPat.tfits hf t o h1
  | .group n t, o, ⟨h1, h3⟩ => IsPat.tfits hf t o h1
/-- **Of the text of a pattern: the pattern.** -/
theorem rdx_text {xs : List Nd} {t : T} (h : IsPat xs t) (hf : ∀ (i : Nat) (x : Nd), xs[i]? = some x → x.Fits) : rdx (text t) = xs := by
  have hn := h.nodes
  obtain ⟨ok, ha, hs, h120, _, _, hnum⟩ := h
  obtain ⟨u, hu⟩ := Option.isSome_iff_exists.1 hnum
  have := rd_text t 120 ⟨text t, [], 0, 0⟩ (fun _ => false) u [] ok (IsPat.tfits hf t 0 ha) hu (by simp) (by simp; omega) (by simp)
  unfold rdx
  rw [this]
  simp [← hn]

theorem nodes_of_own {w : World} {B n : Nat} {v : Value} {xs : List Nd} (h : w.ownsRow B 42 10 v n (flat xs)) (hn : xs.length = n) (hs : n ≤ 1000) (hf : ∀ (i : Nat) (x : Nd), xs[i]? = some x → x.Fits) :
    ∃ p cap, v = .slice p n cap ∧ Nodes w p n xs ∧ (1 ≤ n → ∃ g, p = some ⟨g, 0, none⟩ ∧ B ≤ g ∧ NodesAt w g 0 xs) := by
  rcases h.2 with ⟨rfl, rfl⟩ | ⟨g, cap, cur, rfl, hg, hb, _, _, hc, ht⟩
  · exact ⟨none, 0, rfl, ⟨hn, by omega, fun h => absurd h (by omega), fun h => absurd h (by omega), hf⟩, fun h => absurd h (by omega)⟩
  · have hN : NodesAt w g 0 xs := ⟨(Array.getElem?_eq_some_iff.1 hb).1, fun i x hx j u hj => by
      have hi : i < xs.length := (List.getElem?_eq_some_iff.1 hx).1
      have hj10 : j < 10 := by
        have := (Array.getElem?_eq_some_iff.1 hj).1
        simpa [Nd.cells] using this
      rw [cell_of _ _ _ _ hb, Nat.zero_add]
      have e1 := flat_get xs i j x hx hj10
      rw [hj] at e1
      have : (cur.toList.take (n * 10))[i * 10 + j]? = (flat xs)[i * 10 + j]? := by rw [ht]
      rw [List.getElem?_take_of_lt (by omega), e1] at this
      rw [← this]
      simp⟩
    refine ⟨some ⟨g, 0, none⟩, cap, rfl, ⟨hn, by omega, fun _ => ⟨g, 0, rfl⟩, fun _ b o e => ?_, hf⟩, fun _ => ⟨g, rfl, hg, hN⟩⟩
    simp only [Option.some.injEq, Addr.mk.injEq] at e
    obtain ⟨rfl, rfl, _⟩ := e
    exact hN

/-- What Parse reads of the world. -/
structure Fit4 (w : World) : Prop where
  f : Fit3 w
  v : Vars w
theorem Fit4.below {w w' : World} (h : Fit4 w) (hB : Below w.heap.size w w') : Fit4 w' := ⟨h.f.below hB, h.v.below hB⟩

theorem read_n (s : List UInt8) (hs : s.length < 4294967281) (w : World) (hv : Vars w) :
    Calls Tryz.prog 37 #[.string ⟨s.toArray⟩] w fun e w' => (∃ p cap, e = .returned (.slice p (rdx s).length cap) ∧ Nodes w' p (rdx s).length (rdx s) ∧ (1 ≤ (rdx s).length → ∃ g, p = some ⟨g, 0, none⟩ ∧ w.heap.size ≤ g ∧ NodesAt w' g 0 (rdx s))) ∧ Below w.heap.size w w' := by
  refine (read_c s hs w hv).mono ?_
  rintro e w' ⟨⟨v, rfl, h⟩, hB⟩
  obtain ⟨p, cap, rfl, h1, h2⟩ := nodes_of_own h rfl (by have := rdx_len s hs; unfold rdx at this; omega) (rdx_fits s hs)
  exact ⟨⟨p, cap, rfl, h1, fun h3 => by obtain ⟨g, e, hg, hN⟩ := h2 h3; exact ⟨g, e, by omega, hN⟩⟩, hB⟩

set_option maxRecDepth 100000 in
set_option maxHeartbeats 4000000 in
theorem parse_yes (s : List UInt8) (hs : s.length < 4294967281) (t : T) (hp : IsPat (rdx s) t) (ht : text t = s) (w : World) (hw : Fit4 w) :
    Calls Tryz.prog 17 #[.string ⟨s.toArray⟩] w fun e w' => (∃ g cap, e = .returned (.tuple #[.slice (some ⟨g, 0, none⟩) (rdx s).length cap, .int .i64 0]) ∧ w.heap.size ≤ g ∧ NodesAt w' g 0 (rdx s)) ∧ Below w.heap.size w w' := by
  have HR := Lib.hid (read_n s hs w hw.v)
  have h120 := rdx_len s hs
  have h1 : 1 ≤ (rdx s).length := by have := hp.2.2.1; have := t.size_pos; omega
  have HT := Lib.hid fun b cap w' (hx : NodesAt w' b 0 (rdx s)) (hf : Fit3 w') => text_in b 0 (rdx s).length cap (rdx s) rfl h1 h120 (rdx_fits s hs) t hp w' hf hx
  have HM := Lib.hid fun p cap w' (h : Nodes w' p (rdx s).length (rdx s)) => may_n p (rdx s).length cap (rdx s) true ⟨fun _ => ⟨t, hp⟩, fun _ => rfl⟩ w' h
  rw [ht] at HT
  clear hp ht h120
  generalize hxs : rdx s = xs at HR HT HM h1 ⊢
  clear hxs
  go_enter Tryz.func17, Tryz.ntmps17
  go_wp2_with fail
  refine HR.out.mono ?_
  rintro e w1 ⟨⟨p, cap, rfl, hN, hg⟩, hB1⟩
  obtain ⟨g, rfl, hgB, hX⟩ := hg h1
  clear hg HR
  go_wp2_with fail
  refine (HM.out _ cap w1 hN).mono ?_
  rintro e w2 ⟨rfl, hB2⟩
  have hX2 := hX.below hB2 hX.lt
  have hB12 := hB1.trans (hB2.mono hB1.size)
  clear hN HM
  go_wp2_with fail
  refine (HT.out g cap w2 hX2 (hw.f.below hB12)).mono ?_
  rintro e w3 ⟨rfl, hB3⟩
  have hX3 := hX2.below hB3 hX2.lt
  have hB13 := hB12.trans (hB3.mono hB12.size)
  clear HT
  go_wp2
  refine bodyPost_ret (v := .tuple #[.slice (some ⟨g, 0, none⟩) xs.length cap, .int .i64 0]) (by simp [results, Tryz.results17, go_sem]) rfl ?_
  exact ⟨⟨g, cap, rfl, hgB, hX3⟩, hB13⟩

set_option maxRecDepth 100000 in
set_option maxHeartbeats 4000000 in
theorem parse_no (s : List UInt8) (hs : s.length < 4294967281) (hp : ¬ ∃ t, IsPat (rdx s) t ∧ text t = s) (w : World) (hw : Fit4 w) :
    Calls Tryz.prog 17 #[.string ⟨s.toArray⟩] w fun e w' => e = .returned (.tuple #[.slice none 0 0, .int .i64 40]) ∧ Below w.heap.size w w' := by
  have HR := Lib.hid (read_n s hs w hw.v)
  have h120 := rdx_len s hs
  by_cases hy : ∃ t, IsPat (rdx s) t
  · obtain ⟨t, ht⟩ := hy
    have hne : text t ≠ s := fun e => hp ⟨t, ht, e⟩
    have h1 : 1 ≤ (rdx s).length := by have := ht.2.2.1; have := t.size_pos; omega
    have HT := Lib.hid fun b cap w' (hx : NodesAt w' b 0 (rdx s)) (hf : Fit3 w') => text_in b 0 (rdx s).length cap (rdx s) rfl h1 h120 (rdx_fits s hs) t ht w' hf hx
    have HM := Lib.hid fun p cap w' (h : Nodes w' p (rdx s).length (rdx s)) => may_n p (rdx s).length cap (rdx s) true ⟨fun _ => ⟨t, ht⟩, fun _ => rfl⟩ w' h
    have hq : (text t == s) = false := by simpa using hne
    clear hp ht h120 hne
    generalize text t = tt at *
    generalize hxs : rdx s = xs at HR HT HM h1 ⊢
    clear hxs
    go_enter Tryz.func17, Tryz.ntmps17
    go_wp2_with fail
    refine HR.out.mono ?_
    rintro e w1 ⟨⟨p, cap, rfl, hN, hg⟩, hB1⟩
    obtain ⟨g, rfl, hgB, hX⟩ := hg h1
    clear hg HR
    go_wp2_with fail
    refine (HM.out _ cap w1 hN).mono ?_
    rintro e w2 ⟨rfl, hB2⟩
    have hX2 := hX.below hB2 hX.lt
    have hB12 := hB1.trans (hB2.mono hB1.size)
    clear hN HM
    go_wp2_with fail
    refine (HT.out g cap w2 hX2 (hw.f.below hB12)).mono ?_
    rintro e w3 ⟨rfl, hB3⟩
    have hB13 := hB12.trans (hB3.mono hB12.size)
    clear HT
    go_wp2
    refine bodyPost_ret (v := .tuple #[.slice none 0 0, .int .i64 40]) (by simp [results, Tryz.results17, go_sem]) rfl ?_
    exact ⟨rfl, hB13⟩
  · have HM := Lib.hid fun p cap w' (h : Nodes w' p (rdx s).length (rdx s)) => may_n p (rdx s).length cap (rdx s) false ⟨fun h => absurd h (by decide), fun h => absurd h hy⟩ w' h
    clear hp hy h120
    generalize hxs : rdx s = xs at HR HM ⊢
    clear hxs
    go_enter Tryz.func17, Tryz.ntmps17
    go_wp2_with fail
    refine HR.out.mono ?_
    rintro e w1 ⟨⟨p, cap, rfl, hN, hg⟩, hB1⟩
    clear hg HR
    go_wp2_with fail
    refine (HM.out _ cap w1 hN).mono ?_
    rintro e w2 ⟨rfl, hB2⟩
    have hB12 := hB1.trans (hB2.mono hB1.size)
    clear hN HM
    go_wp2
    refine bodyPost_ret (v := .tuple #[.slice none 0 0, .int .i64 40]) (by simp [results, Tryz.results17, go_sem]) rfl ?_
    exact ⟨rfl, hB12⟩

end Go.Proofs.YthcgboebmhabeaaGreatDoor

namespace Go.Proofs.YthcgboebmhabeaaGreatDoor
open Go.RowKit Go.Lib
set_option linter.unusedVariables false
set_option linter.unusedSimpArgs false

def s0 : List UInt8 := [38, 91, 54, 49, 93, 42, 48, 44, 45, 49, 59, 91, 54, 50, 93]
def na : Nd := ⟨1, 0, 8589934592, 0, 0, 0, 0, 0, 0, 0⟩
def nb : Nd := ⟨1, 0, 17179869184, 0, 0, 0, 0, 0, 0, 0⟩
def t0 : T := .two 4 (.leaf na) (.times 0 (-1) (.leaf nb))
def x0 : List Nd := [na, nb, ⟨6, 0, 0, 0, 0, 1, 0, 0, -1, 0⟩, ⟨4, 0, 0, 0, 0, 0, 2, 0, 0, 0⟩]
theorem bytes_a : (bytesOf na.set).data.toList = [97] := by decide +kernel
theorem bytes_b : (bytesOf nb.set).data.toList = [98] := by decide +kernel
theorem itoa_0 : itoa 0 = [48] := by
  unfold itoa
  rw [if_neg (by omega)]
  exact decDigits_one (by decide)
theorem itoa_m : itoa (-1) = [45, 49] := by
  unfold itoa
  rw [if_pos (by omega)]
  show 45 :: decDigits 1 = _
  rw [decDigits_one (by omega)]
  rfl
theorem hex_a : hexl [97] = [54, 49] := by decide +kernel
theorem hex_b : hexl [98] = [54, 50] := by decide +kernel
theorem text0 : text t0 = s0 := by
  have ka : leafText na = [91, 54, 49, 93] := by
    unfold leafText
    rw [if_neg (by decide), if_pos (by rfl), bytes_a, hex_a]; rfl
  have kb : leafText nb = [91, 54, 50, 93] := by
    unfold leafText
    rw [if_neg (by decide), if_pos (by rfl), bytes_b, hex_b]; rfl
  simp only [t0, text, ka, kb, itoa_0, itoa_m]
  rfl
theorem fits0 : ∀ (i : Nat) (x : Nd), x0[i]? = some x → x.Fits := fun i x h => by
  have : x ∈ x0 := List.mem_of_getElem? h
  simp only [x0, List.mem_cons, List.not_mem_nil, or_false] at this
  rcases this with rfl | rfl | rfl | rfl <;> exact ⟨by decide, by decide, by decide, by decide, by decide, by decide, by decide, by decide, by decide, by decide⟩
theorem pat0 : IsPat x0 t0 := by
  refine ⟨?_, ?_, rfl, by decide, ?_, ?_, by decide +kernel⟩
  · exact ⟨.inl rfl, ⟨by decide +kernel, .inr (.inl rfl)⟩, by decide +kernel, ⟨by decide +kernel, .inr (.inl rfl)⟩⟩
  · exact ⟨rfl, ⟨rfl, rfl⟩, rfl⟩
  · intro i x h
    have : x ∈ x0 := List.mem_of_getElem? h
    simp only [x0, List.mem_cons, List.not_mem_nil, or_false] at this
    rcases this with rfl | rfl | rfl | rfl <;> decide +kernel
  · intro i x h
    have : x ∈ x0 := List.mem_of_getElem? h
    simp only [x0, List.mem_cons, List.not_mem_nil, or_false] at this
    rcases this with rfl | rfl | rfl | rfl
    · exact trivial
    · exact trivial
    · exact .inl (by decide +kernel)
    · exact ⟨by decide +kernel, by decide +kernel, by decide +kernel⟩
theorem rdx0 : rdx s0 = x0 := by rw [← text0]; exact rdx_text pat0 fits0

theorem parse0 (w : World) (hw : Fit4 w) :
    Calls Tryz.prog 17 #[.string ⟨#[38, 91, 54, 49, 93, 42, 48, 44, 45, 49, 59, 91, 54, 50, 93]⟩] w fun e w' => (∃ g cap, e = .returned (.tuple #[.slice (some ⟨g, 0, none⟩) 4 cap, .int .i64 0]) ∧ w.heap.size ≤ g ∧ NodesAt w' g 0 x0) ∧ Below w.heap.size w w' := by
  have := parse_yes s0 (by decide) t0 (by rw [rdx0]; exact pat0) text0 w hw
  rw [rdx0] at this
  exact this

theorem of0 (w : World) : Calls Tryz.prog 18 #[.string ⟨#[97]⟩] w fun e w' => e = .returned (.agg #[.int .u64 0, .int .u64 8589934592, .int .u64 0, .int .u64 0]) ∧ Below w.heap.size w w' := by
  have h := of_c ⟨#[97]⟩ (by decide) w
  have e0 : wd (inS ⟨#[97]⟩ (⟨#[97]⟩ : ByteArray).size) 0 = 0 := by decide +kernel
  have e1 : wd (inS ⟨#[97]⟩ (⟨#[97]⟩ : ByteArray).size) 1 = 8589934592 := by decide +kernel
  have e2 : wd (inS ⟨#[97]⟩ (⟨#[97]⟩ : ByteArray).size) 2 = 0 := by decide +kernel
  have e3 : wd (inS ⟨#[97]⟩ (⟨#[97]⟩ : ByteArray).size) 3 = 0 := by decide +kernel
  unfold sv at h
  rw [e0, e1, e2, e3] at h
  exact h

/-- What holds while shown looks at the nodes. -/
structure ShS (w : World) (g : Nat) (w' : World) : Prop where
  x : NodesAt w' g 0 x0
  f : Fit4 w'
  b : Below w.heap.size w w'
theorem ShS.step {w w1 w2 : World} {g : Nat} (h : ShS w g w1) (hB : Below w1.heap.size w1 w2) : ShS w g w2 :=
  ⟨h.x.below hB h.x.lt, h.f.below hB, h.b.trans (hB.mono h.b.size)⟩
theorem Fit4.drew {w : World} (h : Fit4 w) : Fit4 w.drew := h.below ((Below.refl _ _).drew)
theorem ShS.drew {w w1 : World} {g : Nat} (h : ShS w g w1) : ShS w g w1.drew := h.step ((Below.refl _ _).drew)
theorem ShS.nodes {w w1 : World} {g : Nat} (h : ShS w g w1) : Nodes w1 (some ⟨g, 0, none⟩) 4 x0 :=
  ⟨rfl, by decide, fun _ => ⟨g, 0, rfl⟩, fun _ b o e => by
    simp only [Option.some.injEq, Addr.mk.injEq] at e
    obtain ⟨rfl, rfl, _⟩ := e
    exact h.x, fits0⟩
theorem gcnt0 : gcnt x0 4 = 0 := by decide +kernel

set_option maxRecDepth 100000 in
set_option maxHeartbeats 4000000 in
theorem shown3_c (w : World) (hw : Fit4 w) : Calls Tryz.prog 4 #[] w fun e w' => e = .returned (.bool true) ∧ Below w.heap.size w w' := by
  have HP := Lib.hid (parse0 w hw)
  go_enter Tryz.func4, Tryz.ntmps4
  go_wp2_with fail
  refine HP.out.mono ?_
  rintro e w1 ⟨⟨g, cap, rfl, hg, hX⟩, hB1⟩
  have hS : ShS w g w1 := ⟨hX, hw.below hB1, hB1⟩
  have hes := fun w => eq_four Tryz.underlying40 0 8589934592 0 0 w
  clear HP hX hB1
  go_wp2_with fail
  refine wp_region_noPanic ?_
  refine wp_region_held_drew (S := ShS w g) (by kernel_rfl) ?_ (fun hHeld => ?_)
  · (try dsimp only); exact hS.drew
  refine wpAnyH_take (i := 0) (v := ?_) rfl (by kernel_rfl) (by kernel_rfl) (by kernel_rfl) (fun _ _ _ h => h) (Or.inl ⟨by kernel_rfl, ?_⟩) (by assumption) ?_
  rotate_left
  · (intro w hSw; (try dsimp only at hSw); go_simp); (try with_reducible rfl)
  try simp only [Act.put, List.getElem_toArray, List.getElem_cons_succ, List.getElem_cons_zero, List.setIfInBounds_toArray, List.set_cons_zero, List.set_cons_succ]
  refine wpAnyH_take (i := 1) (v := ?_) rfl (by kernel_rfl) (by kernel_rfl) (by kernel_rfl) (fun _ _ _ h => h) (Or.inl ⟨by kernel_rfl, ?_⟩) (by assumption) ?_
  rotate_left
  · (intro w hSw; (try dsimp only at hSw); go_simp); (try with_reducible rfl)
  try simp only [Act.put, List.getElem_toArray, List.getElem_cons_succ, List.getElem_cons_zero, List.setIfInBounds_toArray, List.set_cons_zero, List.set_cons_succ]
  refine wpAnyH_take (i := 2) (v := ?_) rfl (by kernel_rfl) (by kernel_rfl) (by kernel_rfl) (fun _ _ _ h => h) (Or.inl ⟨by kernel_rfl, ?_⟩) (by assumption) ?_
  rotate_left
  · (intro w hSw; (try dsimp only at hSw); go_simp); (try with_reducible rfl)
  try simp only [Act.put, List.getElem_toArray, List.getElem_cons_succ, List.getElem_cons_zero, List.setIfInBounds_toArray, List.set_cons_zero, List.set_cons_succ]
  refine wpAnyH_take (i := 3) (v := ?_) rfl (by kernel_rfl) (by kernel_rfl) (by kernel_rfl) (fun _ _ _ h => h) (Or.inl ⟨by kernel_rfl, ?_⟩) (by assumption) ?_
  rotate_left
  · (intro w hSw; (try dsimp only at hSw); go_simp); (try with_reducible rfl)
  try simp only [Act.put, List.getElem_toArray, List.getElem_cons_succ, List.getElem_cons_zero, List.setIfInBounds_toArray, List.set_cons_zero, List.set_cons_succ]
  refine wpAnyH_ready (rs := [4]) (by kernel_rfl) (by simp) ?_
  refine AllReadyH.cons rfl (fun K hK => ?_) ?_
  rotate_left
  · exact AllReadyH.nil
  go_simp
  refine (may_n _ 4 cap x0 true ⟨fun _ => ⟨t0, pat0⟩, fun _ => rfl⟩ _ hHeld.nodes).mono ?_
  rintro e w2 ⟨rfl, hB⟩
  have hS2 := hHeld.step hB
  clear hB hHeld
  refine hK.out _ _ ?_ (fun hHeld => ?_)
  · (try dsimp only); exact hS2
  clear hK K
  try simp only [Act.put, List.getElem_toArray, List.getElem_cons_succ, List.getElem_cons_zero, List.setIfInBounds_toArray, List.set_cons_zero, List.set_cons_succ]
  refine wpAnyH_take (i := 5) (v := ?_) rfl (by kernel_rfl) (by kernel_rfl) (by kernel_rfl) (fun _ _ _ h => h) (Or.inl ⟨by kernel_rfl, ?_⟩) (by assumption) ?_
  rotate_left
  · (intro w hSw; (try dsimp only at hSw); go_simp); (try with_reducible rfl)
  try simp only [Act.put, List.getElem_toArray, List.getElem_cons_succ, List.getElem_cons_zero, List.setIfInBounds_toArray, List.set_cons_zero, List.set_cons_succ]
  refine wpAnyH_take (i := 6) (v := ?_) rfl (by kernel_rfl) (by kernel_rfl) (by kernel_rfl) (fun _ _ _ h => h) (Or.inl ⟨by kernel_rfl, ?_⟩) (by assumption) ?_
  rotate_left
  · (intro w hSw; (try dsimp only at hSw); go_simp); (try with_reducible rfl)
  try simp only [Act.put, List.getElem_toArray, List.getElem_cons_succ, List.getElem_cons_zero, List.setIfInBounds_toArray, List.set_cons_zero, List.set_cons_succ]
  refine wpAnyH_take (i := 7) (v := ?_) rfl (by kernel_rfl) (by kernel_rfl) (by kernel_rfl) (fun _ _ _ h => h) (Or.inl ⟨by kernel_rfl, ?_⟩) (by assumption) ?_
  rotate_left
  · (intro w hSw; (try dsimp only at hSw); go_simp); (try with_reducible rfl)
  try simp only [Act.put, List.getElem_toArray, List.getElem_cons_succ, List.getElem_cons_zero, List.setIfInBounds_toArray, List.set_cons_zero, List.set_cons_succ]
  refine wpAnyH_ready (rs := [8]) (by kernel_rfl) (by simp) ?_
  refine AllReadyH.cons rfl (fun K hK => ?_) ?_
  rotate_left
  · exact AllReadyH.nil
  go_simp
  refine (text_in g 0 4 cap x0 rfl (by omega) (by omega) fits0 t0 pat0 _ hHeld.f.f hHeld.x).mono ?_
  rintro e w3 ⟨rfl, hB⟩
  have hS3 := hHeld.step hB
  clear hB hHeld
  refine hK.out _ _ ?_ (fun hHeld => ?_)
  · (try dsimp only); exact hS3
  clear hK K
  try simp only [Act.put, List.getElem_toArray, List.getElem_cons_succ, List.getElem_cons_zero, List.setIfInBounds_toArray, List.set_cons_zero, List.set_cons_succ]
  rw [text0]
  refine wpAnyH_take (i := 9) (v := ?_) rfl (by kernel_rfl) (by kernel_rfl) (by kernel_rfl) (fun _ _ _ h => h) (Or.inl ⟨by kernel_rfl, ?_⟩) (by assumption) ?_
  rotate_left
  · (intro w hSw; (try dsimp only at hSw); go_simp); (try with_reducible rfl)
  try simp only [Act.put, List.getElem_toArray, List.getElem_cons_succ, List.getElem_cons_zero, List.setIfInBounds_toArray, List.set_cons_zero, List.set_cons_succ]
  refine wpAnyH_take (i := 10) (v := ?_) rfl (by kernel_rfl) (by kernel_rfl) (by kernel_rfl) (fun _ _ _ h => h) (Or.inl ⟨by kernel_rfl, ?_⟩) (by assumption) ?_
  rotate_left
  · (intro w hSw; (try dsimp only at hSw); go_simp); (try with_reducible rfl)
  try simp only [Act.put, List.getElem_toArray, List.getElem_cons_succ, List.getElem_cons_zero, List.setIfInBounds_toArray, List.set_cons_zero, List.set_cons_succ]
  refine wpAnyH_take (i := 11) (v := ?_) rfl (by kernel_rfl) (by kernel_rfl) (by kernel_rfl) (fun _ _ _ h => h) (Or.inl ⟨by kernel_rfl, ?_⟩) (by assumption) ?_
  rotate_left
  · (intro w hSw; (try dsimp only at hSw); go_simp); (try with_reducible rfl)
  try simp only [Act.put, List.getElem_toArray, List.getElem_cons_succ, List.getElem_cons_zero, List.setIfInBounds_toArray, List.set_cons_zero, List.set_cons_succ]
  refine wpAnyH_take (i := 12) (v := ?_) rfl (by kernel_rfl) (by kernel_rfl) (by kernel_rfl) (fun _ _ _ h => h) (Or.inl ⟨by kernel_rfl, ?_⟩) (by assumption) ?_
  rotate_left
  · (intro w hSw; (try dsimp only at hSw); go_simp); (try with_reducible rfl)
  try simp only [Act.put, List.getElem_toArray, List.getElem_cons_succ, List.getElem_cons_zero, List.setIfInBounds_toArray, List.set_cons_zero, List.set_cons_succ]
  refine wpAnyH_take (i := 13) (v := ?_) rfl (by kernel_rfl) (by kernel_rfl) (by kernel_rfl) (fun _ _ _ h => h) (Or.inl ⟨by kernel_rfl, ?_⟩) (by assumption) ?_
  rotate_left
  · (intro w hSw; (try dsimp only at hSw); go_simp); (try with_reducible rfl)
  try simp only [Act.put, List.getElem_toArray, List.getElem_cons_succ, List.getElem_cons_zero, List.setIfInBounds_toArray, List.set_cons_zero, List.set_cons_succ]
  refine wpAnyH_take (i := 14) (v := ?_) rfl (by kernel_rfl) (by kernel_rfl) (by kernel_rfl) (fun _ _ _ h => h) (Or.inl ⟨by kernel_rfl, ?_⟩) (by assumption) ?_
  rotate_left
  · (intro w hSw; (try dsimp only at hSw); go_simp); (try with_reducible rfl)
  try simp only [Act.put, List.getElem_toArray, List.getElem_cons_succ, List.getElem_cons_zero, List.setIfInBounds_toArray, List.set_cons_zero, List.set_cons_succ]
  refine wpAnyH_take (i := 15) (v := ?_) rfl (by kernel_rfl) (by kernel_rfl) (by kernel_rfl) (fun _ _ _ h => h) (Or.inl ⟨by kernel_rfl, ?_⟩) (by assumption) ?_
  rotate_left
  · (intro w hSw; (try dsimp only at hSw); go_simp); (try with_reducible rfl)
  try simp only [Act.put, List.getElem_toArray, List.getElem_cons_succ, List.getElem_cons_zero, List.setIfInBounds_toArray, List.set_cons_zero, List.set_cons_succ]
  refine wpAnyH_take (i := 16) (v := ?_) rfl (by kernel_rfl) (by kernel_rfl) (by kernel_rfl) (fun _ _ _ h => h) (Or.inl ⟨by kernel_rfl, ?_⟩) (by assumption) ?_
  rotate_left
  · (intro w hSw; (try dsimp only at hSw); go_simp); (try with_reducible rfl)
  try simp only [Act.put, List.getElem_toArray, List.getElem_cons_succ, List.getElem_cons_zero, List.setIfInBounds_toArray, List.set_cons_zero, List.set_cons_succ]
  refine wpAnyH_take (i := 17) (v := ?_) rfl (by kernel_rfl) (by kernel_rfl) (by kernel_rfl) (fun _ _ _ h => h) (Or.inl ⟨by kernel_rfl, ?_⟩) (by assumption) ?_
  rotate_left
  · (intro w hSw; (try dsimp only at hSw); go_simp); (try with_reducible rfl)
  try simp only [Act.put, List.getElem_toArray, List.getElem_cons_succ, List.getElem_cons_zero, List.setIfInBounds_toArray, List.set_cons_zero, List.set_cons_succ]
  refine wpAnyH_take (i := 18) (v := ?_) rfl (by kernel_rfl) (by kernel_rfl) (by kernel_rfl) (fun _ _ _ h => h) (Or.inl ⟨by kernel_rfl, ?_⟩) (by assumption) ?_
  rotate_left
  · (intro w hSw; (try dsimp only at hSw); go_simp); (try with_reducible rfl)
  try simp only [Act.put, List.getElem_toArray, List.getElem_cons_succ, List.getElem_cons_zero, List.setIfInBounds_toArray, List.set_cons_zero, List.set_cons_succ]
  refine wpAnyH_take (i := 19) (v := ?_) rfl (by kernel_rfl) (by kernel_rfl) (by kernel_rfl) (fun _ _ _ h => h) (Or.inl ⟨by kernel_rfl, ?_⟩) (by assumption) ?_
  rotate_left
  · (intro w hSw; (try dsimp only at hSw); go_simp); (try with_reducible rfl)
  try simp only [Act.put, List.getElem_toArray, List.getElem_cons_succ, List.getElem_cons_zero, List.setIfInBounds_toArray, List.set_cons_zero, List.set_cons_succ]
  refine wpAnyH_take (i := 20) (v := ?_) rfl (by kernel_rfl) (by kernel_rfl) (by kernel_rfl) (fun _ _ _ h => h) (Or.inl ⟨by kernel_rfl, ?_⟩) (by assumption) ?_
  rotate_left
  · (intro w hSw; have q1 : w.cell? ⟨g, 0 + 1, none⟩ = some (.int .u64 0) := hSw.x.cell 0 _ rfl 1 _ rfl; have q2 : w.cell? ⟨g, 0 + 2, none⟩ = some (.int .u64 8589934592) := hSw.x.cell 0 _ rfl 2 _ rfl; have q3 : w.cell? ⟨g, 0 + 3, none⟩ = some (.int .u64 0) := hSw.x.cell 0 _ rfl 3 _ rfl; have q4 : w.cell? ⟨g, 0 + 4, none⟩ = some (.int .u64 0) := hSw.x.cell 0 _ rfl 4 _ rfl; go_simp); (try with_reducible rfl)
  try simp only [Act.put, List.getElem_toArray, List.getElem_cons_succ, List.getElem_cons_zero, List.setIfInBounds_toArray, List.set_cons_zero, List.set_cons_succ]
  refine wpAnyH_ready (rs := [21]) (by kernel_rfl) (by simp) ?_
  refine AllReadyH.cons rfl (fun K hK => ?_) ?_
  rotate_left
  · exact AllReadyH.nil
  go_simp
  refine (of0 _).mono ?_
  rintro e w4 ⟨rfl, hB⟩
  have hS4 := hHeld.step hB
  clear hB hHeld
  refine hK.out _ _ ?_ (fun hHeld => ?_)
  · (try dsimp only); exact hS4
  clear hK K
  try simp only [Act.put, List.getElem_toArray, List.getElem_cons_succ, List.getElem_cons_zero, List.setIfInBounds_toArray, List.set_cons_zero, List.set_cons_succ]
  refine wpAnyH_take (i := 22) (v := ?_) rfl (by kernel_rfl) (by kernel_rfl) (by kernel_rfl) (fun _ _ _ h => h) (Or.inl ⟨by kernel_rfl, ?_⟩) (by assumption) ?_
  rotate_left
  · (intro w hSw; (try dsimp only at hSw); go_simp); (try with_reducible rfl)
  try simp only [Act.put, List.getElem_toArray, List.getElem_cons_succ, List.getElem_cons_zero, List.setIfInBounds_toArray, List.set_cons_zero, List.set_cons_succ]
  refine wpAnyH_take (i := 23) (v := ?_) rfl (by kernel_rfl) (by kernel_rfl) (by kernel_rfl) (fun _ _ _ h => h) (Or.inl ⟨by kernel_rfl, ?_⟩) (by assumption) ?_
  rotate_left
  · (intro w hSw; (try dsimp only at hSw); go_simp); (try with_reducible rfl)
  try simp only [Act.put, List.getElem_toArray, List.getElem_cons_succ, List.getElem_cons_zero, List.setIfInBounds_toArray, List.set_cons_zero, List.set_cons_succ]
  refine wpAnyH_take (i := 24) (v := ?_) rfl (by kernel_rfl) (by kernel_rfl) (by kernel_rfl) (fun _ _ _ h => h) (Or.inl ⟨by kernel_rfl, ?_⟩) (by assumption) ?_
  rotate_left
  · (intro w hSw; (try dsimp only at hSw); go_simp); (try with_reducible rfl)
  try simp only [Act.put, List.getElem_toArray, List.getElem_cons_succ, List.getElem_cons_zero, List.setIfInBounds_toArray, List.set_cons_zero, List.set_cons_succ]
  refine wpAnyH_take (i := 25) (v := ?_) rfl (by kernel_rfl) (by kernel_rfl) (by kernel_rfl) (fun _ _ _ h => h) (Or.inl ⟨by kernel_rfl, ?_⟩) (by assumption) ?_
  rotate_left
  · (intro w hSw; (try dsimp only at hSw); go_simp); (try with_reducible rfl)
  try simp only [Act.put, List.getElem_toArray, List.getElem_cons_succ, List.getElem_cons_zero, List.setIfInBounds_toArray, List.set_cons_zero, List.set_cons_succ]
  refine wpAnyH_ready (rs := [26]) (by kernel_rfl) (by simp) ?_
  refine AllReadyH.cons rfl (fun K hK => ?_) ?_
  rotate_left
  · exact AllReadyH.nil
  go_simp
  refine (groups_in g 0 4 cap x0 rfl (by omega) (by omega) fits0 ⟨t0, pat0⟩ _ hHeld.x).mono ?_
  rintro e w5 ⟨rfl, hB⟩
  have hS5 := hHeld.step hB
  clear hB hHeld
  refine hK.out _ _ ?_ (fun hHeld => ?_)
  · (try dsimp only); exact hS5
  clear hK K
  try simp only [Act.put, List.getElem_toArray, List.getElem_cons_succ, List.getElem_cons_zero, List.setIfInBounds_toArray, List.set_cons_zero, List.set_cons_succ]
  rw [gcnt0]
  refine wpAnyH_take (i := 27) (v := ?_) rfl (by kernel_rfl) (by kernel_rfl) (by kernel_rfl) (fun _ _ _ h => h) (Or.inl ⟨by kernel_rfl, ?_⟩) (by assumption) ?_
  rotate_left
  · (intro w hSw; (try dsimp only at hSw); go_simp); (try with_reducible rfl)
  try simp only [Act.put, List.getElem_toArray, List.getElem_cons_succ, List.getElem_cons_zero, List.setIfInBounds_toArray, List.set_cons_zero, List.set_cons_succ]
  refine wpAnyH_take (i := 28) (v := ?_) rfl (by kernel_rfl) (by kernel_rfl) (by kernel_rfl) (fun _ _ _ h => h) (Or.inl ⟨by kernel_rfl, ?_⟩) (by assumption) ?_
  rotate_left
  · (intro w hSw; (try dsimp only at hSw); go_simp); (try with_reducible rfl)
  try simp only [Act.put, List.getElem_toArray, List.getElem_cons_succ, List.getElem_cons_zero, List.setIfInBounds_toArray, List.set_cons_zero, List.set_cons_succ]
  refine wpAnyH_take (i := 29) (v := ?_) rfl (by kernel_rfl) (by kernel_rfl) (by kernel_rfl) (fun _ _ _ h => h) (Or.inl ⟨by kernel_rfl, ?_⟩) (by assumption) ?_
  rotate_left
  · (intro w hSw; (try dsimp only at hSw); go_simp); (try with_reducible rfl)
  try simp only [Act.put, List.getElem_toArray, List.getElem_cons_succ, List.getElem_cons_zero, List.setIfInBounds_toArray, List.set_cons_zero, List.set_cons_succ]
  refine wpAnyH_done (by kernel_rfl) ?_ _
  refine NoPanic.normal ?_
  go_wp2
  go_ret
  exact ⟨rfl, hS5.b⟩

end Go.Proofs.YthcgboebmhabeaaGreatDoor
