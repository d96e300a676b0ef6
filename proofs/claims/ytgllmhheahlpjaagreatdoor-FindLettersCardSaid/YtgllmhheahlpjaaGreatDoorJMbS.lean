/- A trial in memory; isRun. -/
import Derived.Test.YtgllmhheahlpjaaGreatDoorJMbL
import Derived.WideKeyPair
import Derived.Maps.Own
import Derived.DeepKeys4
import Derived.Maps.OwnSet
import Derived.Maps.Range
import Derived.Test.YtgllmhheahlpjaaGreatDoorJSpanC
set_option linter.unusedVariables false
set_option linter.unusedSimpArgs false
set_option maxRecDepth 100000
set_option maxHeartbeats 40000000
namespace Go.Proofs.YtgllmhheahlpjaaGreatDoor
open Go.RowKit
structure TrV where
 lb : Nat
 lo : Nat
 n : Nat
 lc : Nat
 rb : Nat
 bn : Nat
 br : Nat
 bl : Nat
 lp : Option Addr
def TrV.cells (v : TrV) (s : List UInt8) : Array Value := #[.slice (some ⟨v.lb, v.lo, none⟩) v.n v.lc, .string ⟨s.toArray⟩, .slice (some ⟨v.rb, 0, none⟩) v.n v.n, .map (some v.bn), .map (some v.br), .map (some v.bl), .pointer v.lp]
structure TrAt (w : World) (X : Nat) (v : TrV) (s : List UInt8) : Prop where
 heap : w.heap[X]? = some (.cells (v.cells s) 102 (0, 0))
section
variable {w : World} {X : Nat} {v : TrV} {s : List UInt8}
theorem TrAt.lt (h : TrAt w X v s) : X < w.heap.size := (Array.getElem?_eq_some_iff.1 h.heap).1
theorem TrAt.c0 (h : TrAt w X v s) : w.cell? ⟨X, 0, none⟩ = some (.slice (some ⟨v.lb, v.lo, none⟩) v.n v.lc) := by simp [World.cell?, h.heap, TrV.cells]
theorem TrAt.c1 (h : TrAt w X v s) : w.cell? ⟨X, 1, none⟩ = some (.string ⟨s.toArray⟩) := by simp [World.cell?, h.heap, TrV.cells]
theorem TrAt.c2 (h : TrAt w X v s) : w.cell? ⟨X, 2, none⟩ = some (.slice (some ⟨v.rb, 0, none⟩) v.n v.n) := by simp [World.cell?, h.heap, TrV.cells]
theorem TrAt.c3 (h : TrAt w X v s) : w.cell? ⟨X, 3, none⟩ = some (.map (some v.bn)) := by simp [World.cell?, h.heap, TrV.cells]
theorem TrAt.c4 (h : TrAt w X v s) : w.cell? ⟨X, 4, none⟩ = some (.map (some v.br)) := by simp [World.cell?, h.heap, TrV.cells]
theorem TrAt.c5 (h : TrAt w X v s) : w.cell? ⟨X, 5, none⟩ = some (.map (some v.bl)) := by simp [World.cell?, h.heap, TrV.cells]
theorem TrAt.c6 (h : TrAt w X v s) : w.cell? ⟨X, 6, none⟩ = some (.pointer v.lp) := by simp [World.cell?, h.heap, TrV.cells]
theorem TrAt.keeps {S : Nat → Prop} {w' : World} (h : TrAt w X v s) (k : Keeps S w w') (hs : ¬ S X) : TrAt w' X v s := ⟨(k.block X h.lt hs).trans h.heap⟩
end
theorem NodesAt.keeps {S : Nat → Prop} {w w' : World} {b o : Nat} {xs : List Nd} (h : NodesAt w b o xs) (k : Keeps S w w') (hs : ¬ S b) : NodesAt w' b o xs :=
 ⟨Nat.lt_of_lt_of_le h.lt k.size, fun i x hx j v hv => by
  have e := k.block b h.lt hs
  rw [show w'.cell? ⟨b, o + i * 10 + j, none⟩ = w.cell? ⟨b, o + i * 10 + j, none⟩ by simp only [World.cell?, e]]
  exact h.cell i x hx j v hv⟩
def isRunT : T → Bool
 | .leaf _ => true
 | .two _ _ _ => false
 | .times _ _ t => t.isBytes.isSome
 | .group _ _ => false
theorem isrun_core (X i : Nat) (v : TrV) (s : List UInt8) (xs : List Nd) (hi : i < v.n) (hn : v.n ≤ 120) (x : Nd) (hx : xs[i]? = some x) (r : Bool)
  (hr : (x.kind = 4 ∨ x.kind = 5 ∨ x.kind = 7) ∧ r = false ∨ (x.kind = 6 ∧ ∃ (p : Nat) (y : Nd), x.a = p ∧ p < v.n ∧ xs[p]? = some y ∧ r = decide (y.kind = 1)) ∨ (x.kind ≠ 4 ∧ x.kind ≠ 5 ∧ x.kind ≠ 7 ∧ x.kind ≠ 6) ∧ r = true)
  (w : World) (h : TrAt w X v s) (hl : NodesAt w v.lb v.lo xs) :
  Calls Tryz.prog 137 #[.pointer (some ⟨X, 0, none⟩), .int .i64 i] w fun e w' => e = .returned (.bool r) ∧ Below w.heap.size w w' := by
 have q0 := h.c0
 have d := hl.cell i x hx
 have HL := Lib.hid hl.cell
 have lb := hl.lt
 clear h hl
 obtain ⟨lb', lo, n, lc, rb, bn, br, bl, lp⟩ := v
 simp only at *
 obtain ⟨kd, w0, w1, w2, w3, xa, xb, m, M, xn⟩ := x
 have d0 : w.cell? ⟨lb', lo + i * 10, none⟩ = some (.int .i64 kd) := d 0 _ rfl
 have d1 : w.cell? ⟨lb', lo + i * 10 + 1, none⟩ = some (.int .u64 w0) := d 1 _ rfl
 have d2 : w.cell? ⟨lb', lo + i * 10 + 2, none⟩ = some (.int .u64 w1) := d 2 _ rfl
 have d3 : w.cell? ⟨lb', lo + i * 10 + 3, none⟩ = some (.int .u64 w2) := d 3 _ rfl
 have d4 : w.cell? ⟨lb', lo + i * 10 + 4, none⟩ = some (.int .u64 w3) := d 4 _ rfl
 have d5 : w.cell? ⟨lb', lo + i * 10 + 5, none⟩ = some (.int .i64 xa) := d 5 _ rfl
 have d6 : w.cell? ⟨lb', lo + i * 10 + 6, none⟩ = some (.int .i64 xb) := d 6 _ rfl
 have d7 : w.cell? ⟨lb', lo + i * 10 + 7, none⟩ = some (.int .i64 m) := d 7 _ rfl
 have d8 : w.cell? ⟨lb', lo + i * 10 + 8, none⟩ = some (.int .i64 M) := d 8 _ rfl
 have d9 : w.cell? ⟨lb', lo + i * 10 + 9, none⟩ = some (.int .i64 xn) := d 9 _ rfl
 clear d
 have lX := cell_lt q0
 simp only at hr
 rcases hr with ⟨hk, rfl⟩ | ⟨rfl, p, y, rfl, hp, hy, rfl⟩ | ⟨hk, rfl⟩
 ·rcases hk with rfl | rfl | rfl
  ·go_enter Tryz.func137, Tryz.ntmps137
   go_wp2
   go_ret
   exact ⟨rfl, (Below.refl _ w).alloc (Nat.le_refl _) _⟩
  ·go_enter Tryz.func137, Tryz.ntmps137
   go_wp2
   go_ret
   exact ⟨rfl, (Below.refl _ w).alloc (Nat.le_refl _) _⟩
  ·go_enter Tryz.func137, Tryz.ntmps137
   go_wp2
   go_ret
   exact ⟨rfl, (Below.refl _ w).alloc (Nat.le_refl _) _⟩
 ·obtain ⟨ky, u0, u1, u2, u3, ya, yb, ym, yM, yn⟩ := y
  have g0 : w.cell? ⟨lb', lo + p * 10, none⟩ = some (.int .i64 ky) := HL.out p _ hy 0 _ rfl
  have g0' := cell_alloc1 (.cells (nA 6 w0 w1 w2 w3 p xb m M xn) 60) g0
  have q0' := cell_alloc1 (.cells (nA 6 w0 w1 w2 w3 p xb m M xn) 60) q0
  simp only
  by_cases hk : ky = 1
  ·subst hk
   go_enter Tryz.func137, Tryz.ntmps137
   go_wp2_with fail
   go_region
   all_goals
    go_wp2
    go_ret
    exact ⟨rfl, ((Below.refl _ w).alloc (Nat.le_refl _) _).drew⟩
  ·have z : (ky == 1) = false := by rw [beq_eq_false_iff_ne]; exact hk
   rw [decide_eq_false hk]
   go_enter Tryz.func137, Tryz.ntmps137
   go_wp2_with fail
   go_region
   all_goals
    go_wp2
    go_ret
    exact ⟨rfl, ((Below.refl _ w).alloc (Nat.le_refl _) _).drew⟩
 ·obtain ⟨k4, k5, k7, k6⟩ := hk
  have z4 : (kd == 4) = false := by rw [beq_eq_false_iff_ne]; exact k4
  have z5 : (kd == 5) = false := by rw [beq_eq_false_iff_ne]; exact k5
  have z7 : (kd == 7) = false := by rw [beq_eq_false_iff_ne]; exact k7
  have z6 : (kd == 6) = false := by rw [beq_eq_false_iff_ne]; exact k6
  go_enter Tryz.func137, Tryz.ntmps137
  go_wp2
  go_ret
  exact ⟨rfl, (Below.refl _ w).alloc (Nat.le_refl _) _⟩
theorem isrun_c (X i : Nat) (v : TrV) (s : List UInt8) (xs : List Nd) (t : T) (ht : Sub (fun i => xs[i]?) t i) (hxs : xs.length = v.n) (hn : v.n ≤ 120) (w : World) (h : TrAt w X v s) (hl : NodesAt w v.lb v.lo xs) :
  Calls Tryz.prog 137 #[.pointer (some ⟨X, 0, none⟩), .int .i64 i] w fun e w' => e = .returned (.bool (isRunT t)) ∧ Below w.heap.size w w' := by
 have hlen : ∀ (j : Nat) (y : Nd), xs[j]? = some y → j < v.n := fun j y hj => by
  have := (List.getElem?_eq_some_iff.1 hj).1
  omega
 cases t with
 | leaf x =>
  have hx := ht.leaf
  have hk := ht.1
  simp only [T.Lok] at hk
  exact isrun_core X i v s xs (hlen i x hx) hn x hx true (.inr (.inr ⟨by omega, rfl⟩)) w h hl
 | two k a b =>
  obtain ⟨p, q, hx, _, _, _, _, hk⟩ := ht.two
  exact isrun_core X i v s xs (hlen i _ hx) hn _ hx false (.inl ⟨by simp only; omega, rfl⟩) w h hl
 | group N a =>
  obtain ⟨p, hx, _, _, hk⟩ := ht.group
  exact isrun_core X i v s xs (hlen i _ hx) hn _ hx false (.inl ⟨.inr (.inr rfl), rfl⟩) w h hl
 | times m M a =>
  obtain ⟨p, hx, sa, hp, _⟩ := ht.times
  obtain ⟨o, hy, _⟩ := sa.node
  refine isrun_core X i v s xs (hlen i _ hx) hn _ hx _ (.inr (.inl ⟨rfl, p, _, rfl, hlen p _ hy, hy, ?_⟩)) w h hl
  have hk := sa.1
  cases a with
  | leaf y =>
   show (if y.kind = 1 then some y.set else none).isSome = decide (y.kind = 1)
   by_cases q : y.kind = 1
   ·rw [if_pos q, decide_eq_true q]; rfl
   ·rw [if_neg q, decide_eq_false q]; rfl
  | two k _ _ =>
   have : ¬ k = 1 := by have := hk.1; omega
   show false = decide (k = 1)
   rw [decide_eq_false this]
  | times _ _ _ => rfl
  | group _ _ => rfl
end Go.Proofs.YtgllmhheahlpjaaGreatDoor
namespace Go.Proofs.YtgllmhheahlpjaaGreatDoor
open Go.RowKit Go.Maps Go.WideMaps
theorem stateArr : ArrKey Tryz.prog 142 3 4 := ⟨Tryz.underlying142, by kernel_rfl, by kernel_rfl, by kernel_rfl⟩
theorem stateKeyed : Keyed Tryz.prog 142 := Keyed.of_law stateArr.law
theorem types_pos : ∃ m, Tryz.prog.types.size = m + 1 := ⟨Tryz.prog.types.size - 1, by have : 0 < Tryz.prog.types.size := of_decide_eq_true (by kernel_rfl); omega⟩
theorem int_wf {a : Int} (h : -9223372036854775808 ≤ a ∧ a ≤ 9223372036854775807) : (Lit.int .i64 a).wf = true := by
 have e1 : IntKind.i64.min = -9223372036854775808 := by decide
 have e2 : IntKind.i64.max = 9223372036854775807 := by decide
 simp only [Lit.wf, e1, e2, Bool.and_eq_true, decide_eq_true_eq]
 exact h
def stK (a b c d : Int) : Lit := .string (keyBytes [.int .i64 a, .int .i64 b, .int .i64 c, .int .i64 d])
theorem keyOf_state {a b c d : Int} (wa : (Lit.int .i64 a).wf = true) (wb : (Lit.int .i64 b).wf = true) (wc : (Lit.int .i64 c).wf = true) (wd : (Lit.int .i64 d).wf = true) :
  keyOf Tryz.prog 142 (.agg #[.int .i64 a, .int .i64 b, .int .i64 c, .int .i64 d]) = some (stK a b c d) := by
 have A := stateArr
 have he : Tryz.prog.underlying 3 = some (.int .i64) := Tryz.underlying3
 have hkt := A.keyType types_pos
 obtain ⟨m, hm⟩ := types_pos
 unfold keyOf stK
 simp only [A.hu]
 rw [if_pos (by simp [hkt, Value.formed, A.hu, A.size]), hm]
 unfold Program.keyLits
 simp only [A.hu, Value.cells]
 rw [if_pos (by rw [A.size]; rfl), show List.range 4 = [0, 1, 2, 3] from rfl, List.mapM_cons, List.mapM_cons, List.mapM_cons, List.mapM_cons, List.mapM_nil]
 simp [A.one, Program.keyLits, he, wa, wb, wc, wd]
theorem state_inj {a b c d a' b' c' d' : Int} (wa : (Lit.int .i64 a).wf = true) (wb : (Lit.int .i64 b).wf = true) (wc : (Lit.int .i64 c).wf = true) (wd : (Lit.int .i64 d).wf = true) (wa' : (Lit.int .i64 a').wf = true) (wb' : (Lit.int .i64 b').wf = true) (wc' : (Lit.int .i64 c').wf = true) (wd' : (Lit.int .i64 d').wf = true)
  (h : stK a b c d = stK a' b' c' d') : a = a' ∧ b = b' ∧ c = c' ∧ d = d' := by
 have := stateKeyed.inj (keyOf_state wa wb wc wd) (by rw [h]; exact keyOf_state wa' wb' wc' wd')
 simpa using this
end Go.Proofs.YtgllmhheahlpjaaGreatDoor
namespace Go.Proofs.YtgllmhheahlpjaaGreatDoor
open Go.RowKit Go.Maps Go.WideMaps
theorem partsHu : Tryz.prog.underlying 172 = some (.array 10 171) := Tryz.underlying172
theorem pairHu : Tryz.prog.underlying 171 = some (.array 2 3) := Tryz.underlying171
theorem partsLaw : KeyLaw Tryz.prog 172 := deep_law_laid (by kernel_rfl) (m := 3) (by omega) (of_decide_eq_true (by kernel_rfl)) (by kernel_rfl) (by rw [partsHu])
theorem partsKeyed : Keyed Tryz.prog 172 := Keyed.of_law partsLaw
theorem keyLits_pair (m : Nat) {a b : Int} (wa : (Lit.int .i64 a).wf = true) (wb : (Lit.int .i64 b).wf = true) : Tryz.prog.keyLits (m + 2) 171 [.int .i64 a, .int .i64 b] = some [.int .i64 a, .int .i64 b] := by
 have he : Tryz.prog.underlying 3 = some (.int .i64) := Tryz.underlying3
 have c1 : Tryz.prog.cellsOf 171 = 2 := by kernel_rfl
 have c2 : Tryz.prog.cellsOf 3 = 1 := by kernel_rfl
 unfold Program.keyLits
 simp only [pairHu]
 rw [if_pos (by rw [c1]; rfl), show List.range 2 = [0, 1] from rfl, List.mapM_cons, List.mapM_cons, List.mapM_nil]
 simp [c2, Program.keyLits, he, wa, wb]
theorem types_more : ∃ m, Tryz.prog.types.size = m + 2 := ⟨Tryz.prog.types.size - 2, by have : 1 < Tryz.prog.types.size := of_decide_eq_true (by kernel_rfl); omega⟩
def ptV (P : Nat → Int × Int) : Value := .agg #[.int .i64 (P 0).1, .int .i64 (P 0).2, .int .i64 (P 1).1, .int .i64 (P 1).2, .int .i64 (P 2).1, .int .i64 (P 2).2, .int .i64 (P 3).1, .int .i64 (P 3).2, .int .i64 (P 4).1, .int .i64 (P 4).2, .int .i64 (P 5).1, .int .i64 (P 5).2, .int .i64 (P 6).1, .int .i64 (P 6).2, .int .i64 (P 7).1, .int .i64 (P 7).2, .int .i64 (P 8).1, .int .i64 (P 8).2, .int .i64 (P 9).1, .int .i64 (P 9).2] 
theorem keyOf_parts (P : Nat → Int × Int) (hw : ∀ k, k < 10 → (Lit.int .i64 (P k).1).wf = true ∧ (Lit.int .i64 (P k).2).wf = true) :
  ∃ l, keyOf Tryz.prog 172 (ptV P) = some l := by
 have c1 : Tryz.prog.cellsOf 171 = 2 := by kernel_rfl
 have c0 : Tryz.prog.cellsOf 172 = 20 := by kernel_rfl
 have hkt : Tryz.prog.keyType 172 = true := by kernel_rfl
 obtain ⟨m, hm⟩ := types_more
 have hp : ∀ k, k < 10 → Tryz.prog.keyLits (m + 2) 171 [.int .i64 (P k).1, .int .i64 (P k).2] = some [.int .i64 (P k).1, .int .i64 (P k).2] := fun k hk => keyLits_pair m (hw k hk).1 (hw k hk).2
 have h0 := hp 0 (by decide)
 have h1 := hp 1 (by decide)
 have h2 := hp 2 (by decide)
 have h3 := hp 3 (by decide)
 have h4 := hp 4 (by decide)
 have h5 := hp 5 (by decide)
 have h6 := hp 6 (by decide)
 have h7 := hp 7 (by decide)
 have h8 := hp 8 (by decide)
 have h9 := hp 9 (by decide)
 unfold keyOf ptV
 simp only [partsHu]
 rw [if_pos (by simp [hkt, Value.formed, partsHu, c0]), hm]
 unfold Program.keyLits
 simp only [partsHu, Value.cells]
 rw [if_pos (by rw [c0]; rfl), show List.range 10 = [0, 1, 2, 3, 4, 5, 6, 7, 8, 9] from rfl]
 simp only [List.mapM_cons, List.mapM_nil, c1]
 simp [h0, h1, h2, h3, h4, h5, h6, h7, h8, h9]
end Go.Proofs.YtgllmhheahlpjaaGreatDoor
namespace Go.Proofs.YtgllmhheahlpjaaGreatDoor
open Go.RowKit Go.Maps Go.WideMaps
theorem nodup_lt : ∀ (K : Nat) (l : List Nat), l.Nodup → (∀ x ∈ l, x < K) → l.length ≤ K
 | 0, l, _, h => by
  cases l with
  | nil => exact Nat.le_refl _
  | cons a r => exact absurd (h a (by simp)) (by omega)
 | K + 1, l, hn, h => by
  by_cases hk : K ∈ l
  ·have h2 := nodup_lt K (l.erase K) (hn.erase K) (fun x hx => by
    have h3 := h x (List.mem_of_mem_erase hx)
    have : x ≠ K := fun e => by subst e; exact hn.not_mem_erase hx
    omega)
   rw [List.length_erase_of_mem hk] at h2
   omega
  ·have := nodup_lt K l hn (fun x hx => by
    have h3 := h x hx
    have : x ≠ K := fun e => hk (e ▸ hx)
    omega)
   omega
theorem size_lt {P : Program} {k : TypeId} {R : Value → Option (DataW Value × List MemPlace)} {w : World} {b n : Nat} {D : DataW Value} (h : w.ownsMap P k R b n D) (K : Keyed P k) (code : Lit → Nat) (N : Nat)
  (hinj : ∀ es, D = .map es → ∀ p ∈ es, ∀ q ∈ es, code p.1 = code q.1 → p.1 = q.1) (hlt : ∀ es, D = .map es → ∀ p ∈ es, code p.1 < N) : Maps.size D ≤ N := by
 obtain ⟨es, rfl, hd, _⟩ := h.entries K
 rw [size_eq]
 have hl : es.length = (es.map fun p => code p.1).length := by simp
 rw [hl]
 refine nodup_lt N _ ?_ (fun x hx => ?_)
 ·rw [List.nodup_iff_pairwise_ne, List.pairwise_map]
  refine hd.imp_of_mem ?_
  intro p q hp hq hne e
  exact hne (hinj es rfl p hp q hq e)
 ·rw [List.mem_map] at hx
  obtain ⟨p, hp, rfl⟩ := hx
  exact hlt es rfl p hp
theorem owns_size {P : Program} {k : TypeId} {R : Value → Option (DataW Value × List MemPlace)} {w : World} {b n : Nat} {D : DataW Value} (h : w.ownsMap P k R b n D) : w.ownsMap P k R b (Maps.size D) D := by
 obtain ⟨es, clock, hb, F, hs, hD⟩ := h
 refine ⟨es, clock, hb, F, ?_, hD⟩
 rw [hD]
 simp [Maps.size, length_sorted]
end Go.Proofs.YtgllmhheahlpjaaGreatDoor
namespace Go.Proofs.YtgllmhheahlpjaaGreatDoor
open Go.RowKit Go.Maps Go.WideMaps
theorem len_sub {α : Type} : ∀ (l m : List α), l.Nodup → (∀ x ∈ l, x ∈ m) → l.length ≤ m.length
 | [], m, _, _ => Nat.zero_le _
 | a :: r, m, hn, h => by
  obtain ⟨s, t, rfl⟩ := List.append_of_mem (h a (by simp))
  rw [List.nodup_cons] at hn
  have := len_sub r (s ++ t) hn.2 (fun x hx => by
   have h1 := h x (by simp [hx])
   simp only [List.mem_append, List.mem_cons] at h1 ⊢
   rcases h1 with h1 | h1 | h1
   ·exact .inl h1
   ·subst h1; exact absurd hx hn.1
   ·exact .inr h1)
  simp only [List.length_append, List.length_cons] at this ⊢
  omega
open Classical in
noncomputable def pos : List Lit → Lit → Option Nat
 | [], _ => none
 | a :: r, l => if l = a then some 0 else (pos r l).map (· + 1)
theorem pos_lt : ∀ {es : List Lit} {l : Lit} {k : Nat}, pos es l = some k → k < es.length ∧ es[k]? = some l
 | [], _, _, h => by cases h
 | a :: r, l, k, h => by
  unfold pos at h
  split at h
  ·rename_i e; cases h; subst e; exact ⟨by simp, rfl⟩
  ·cases hp : pos r l with
   | none => rw [hp] at h; cases h
   | some j =>
    rw [hp] at h; cases h
    obtain ⟨h1, h2⟩ := pos_lt hp
    exact ⟨by simp; omega, by simpa using h2⟩
theorem pos_pre : ∀ {es : List Lit} (fs : List Lit) {l : Lit} {k : Nat}, pos es l = some k → pos (es ++ fs) l = some k
 | [], _, _, _, h => by cases h
 | a :: r, fs, l, k, h => by
  rw [List.cons_append]
  unfold pos at h ⊢
  split at h
  ·rename_i e; rw [if_pos e]; exact h
  ·rename_i e
   rw [if_neg e]
   cases hp : pos r l with
   | none => rw [hp] at h; cases h
   | some j => rw [pos_pre fs hp]; rw [hp] at h; exact h
theorem pos_none : ∀ {es : List Lit} {l : Lit}, pos es l = none ↔ l ∉ es
 | [], _ => by simp [pos]
 | a :: r, l => by
  unfold pos
  split
  ·rename_i e; simp [e]
  ·rename_i e
   rw [Option.map_eq_none_iff, pos_none]
   simp [e]
theorem pos_new : ∀ {es : List Lit} {l : Lit}, pos es l = none → pos (es ++ [l]) l = some es.length
 | [], l, _ => by simp [pos]
 | a :: r, l, h => by
  rw [pos_none] at h
  rw [List.mem_cons, not_or] at h
  rw [List.cons_append]
  unfold pos
  rw [if_neg h.1, pos_new (pos_none.2 h.2)]
  simp
theorem pos_other : ∀ {es : List Lit} {l m : Lit}, l ≠ m → pos (es ++ [m]) l = pos es l
 | [], l, m, h => by simp [pos, h]
 | a :: r, l, m, h => by
  rw [List.cons_append]
  unfold pos
  rw [pos_other h]
def RV (v : Value) : Option (DataW Value × List MemPlace) := some (.held v, [])
structure MapA (k : TypeId) (w : World) (b : Nat) (code : Lit → Nat) (N : Nat) (ok : Lit → Prop) (L : Lit → Option Value) : Prop where
 own : ∃ n D, w.ownsMap Tryz.prog k RV b n D ∧ (∀ l, WideAt.IsKeyLit l → (has D l = (L l).isSome ∧ ∀ v, L l = some v → ∀ z, D.atKey l z = .held v))
 isOk : ∀ l, WideAt.IsKeyLit l → (L l).isSome = true → ok l
 inj : ∀ l m, ok l → ok m → code l = code m → l = m
 lt : ∀ l, ok l → code l < N
 max : N < maxLen
section
variable {k : TypeId} {w : World} {b N : Nat} {code : Lit → Nat} {ok : Lit → Prop} {L : Lit → Option Value}
theorem MapA.blt (h : MapA k w b code N ok L) : b < w.heap.size := by
 obtain ⟨n, D, h1, _⟩ := h.own
 exact h1.lt
theorem MapA.of_heap {w' : World} (h : MapA k w b code N ok L) (e : w'.heap[b]? = w.heap[b]?) : MapA k w' b code N ok L := by
 obtain ⟨n, D, ⟨es, clock, hb, r⟩, h2⟩ := h.own
 exact ⟨⟨n, D, ⟨es, clock, e.trans hb, r⟩, h2⟩, h.isOk, h.inj, h.lt, h.max⟩
theorem MapA.noCell (h : MapA k w b code N ok L) (j : Nat) : w.cell? ⟨b, j, none⟩ = none := by
 obtain ⟨n, D, ⟨es, clock, hb, r⟩, h2⟩ := h.own
 simp [World.cell?, hb]
theorem MapA.look_ok (h : MapA k w b code N ok L) (K : Keyed Tryz.prog k) {t e : TypeId} (ht : Tryz.prog.underlying t = some (.map k e)) {z : Value} (hz : ∀ w, (zeroValue e).run Tryz.prog w = .ok z w) {key : Value} {kl : Lit} (hkey : keyOf Tryz.prog k key = some kl) :
  ∃ v, (Instr.lookup t (.map (some b)) key true).run Tryz.prog w = .ok (.tuple #[v, .bool (L kl).isSome]) w ∧ ∀ u, L kl = some u → v = u := by
 obtain ⟨n, D, h1, h2⟩ := h.own
 obtain ⟨v, ps, hrun, hv⟩ := h1.look_ok K ht (hz w) (zd := .held z) (zp := []) rfl hkey
 obtain ⟨e1, e2⟩ := h2 kl (K.key hkey)
 refine ⟨v, by rw [hrun, e1], fun u hu => ?_⟩
 rw [e2 u hu] at hv
 cases hv; rfl
theorem MapA.look (h : MapA k w b code N ok L) (K : Keyed Tryz.prog k) {t e : TypeId} (ht : Tryz.prog.underlying t = some (.map k e)) {z : Value} (hz : ∀ w, (zeroValue e).run Tryz.prog w = .ok z w) {key : Value} {kl : Lit} (hkey : keyOf Tryz.prog k key = some kl) :
  (Instr.lookup t (.map (some b)) key false).run Tryz.prog w = .ok ((L kl).getD z) w := by
 obtain ⟨n, D, h1, h2⟩ := h.own
 obtain ⟨v, ps, hrun, hv⟩ := h1.lookup K ht (hz w) (zd := .held z) (zp := []) rfl hkey
 obtain ⟨e1, e2⟩ := h2 kl (K.key hkey)
 cases hl : L kl with
 | some u =>
  rw [e2 u hl] at hv
  cases hv
  exact hrun
 | none =>
  rw [hl] at e1
  rw [atKey_of_not_has e1] at hv
  cases hv
  exact hrun
theorem MapA.len (h : MapA k w b code N ok L) {t e : TypeId} (ht : Tryz.prog.underlying t = some (.map k e)) (ty : TypeId) (K : Keyed Tryz.prog k) : ∃ m : Nat, m ≤ N ∧ (Builtin.len_ #[t] ty #[.map (some b)]).run Tryz.prog w = .ok (.int .i64 m) w ∧ ∀ (es : List Lit), es.Nodup → (∀ l ∈ es, WideAt.IsKeyLit l ∧ (L l).isSome = true) → (∀ l, WideAt.IsKeyLit l → (L l).isSome = true → l ∈ es) → m = es.length := by
 obtain ⟨n, D, h1, h2⟩ := h.own
 obtain ⟨qs, rfl, hd, hkl⟩ := h1.entries K
 have hin : ∀ p ∈ qs, (L p.1).isSome = true := fun p hp => by
  rw [← (h2 p.1 (hkl p hp)).1, has_eq, List.any_eq_true]
  exact ⟨p, hp, WideAt.sameKey_self (hkl p hp)⟩
 refine ⟨qs.length, ?_, ?_, ?_⟩
 ·have := size_lt h1 K code N (fun es e p hp q hq he => by
   cases e
   exact h.inj _ _ (h.isOk _ (hkl p hp) (hin p hp)) (h.isOk _ (hkl q hq) (hin q hq)) he) (fun es e p hp => by
   cases e
   exact h.lt _ (h.isOk _ (hkl p hp) (hin p hp)))
  rwa [size_eq] at this
 ·have := h1.len ht ty
  rwa [size_eq] at this
 ·intro es hes hA hB
  have hl : qs.length = (qs.map (·.1)).length := by simp
  rw [hl]
  have hn1 : (qs.map (·.1)).Nodup := by
   rw [List.nodup_iff_pairwise_ne, List.pairwise_map]; exact hd
  refine Nat.le_antisymm ?_ ?_
  ·refine len_sub _ _ hn1 (fun l hl => ?_)
   obtain ⟨p, hp, rfl⟩ := List.mem_map.1 hl
   exact hB _ (hkl p hp) (hin p hp)
  ·refine len_sub _ _ hes (fun l hl => ?_)
   obtain ⟨hk, hs⟩ := hA l hl
   rw [← (h2 l hk).1, has_eq, List.any_eq_true] at hs
   obtain ⟨p, hp, e⟩ := hs
   have := WideAt.sameKey_eq e
   exact List.mem_map.2 ⟨p, hp, this⟩
open Classical in
theorem MapA.update (h : MapA k w b code N ok L) (K : Keyed Tryz.prog k) {t e : TypeId} (ht : Tryz.prog.underlying t = some (.map k e)) {key val : Value} {kl : Lit} (hkey : keyOf Tryz.prog k key = some kl) (hok : ok kl) :
  ∃ w', (Instr.mapUpdate t (.map (some b)) key val).run Tryz.prog w = .ok () w' ∧ MapA k w' b code N ok (fun l => if l = kl then some val else L l) ∧ w.grownBy w' (some b) := by
 obtain ⟨n, D, h1, h2⟩ := h.own
 obtain ⟨qs, hD, hd, hkl⟩ := h1.entries K
 have hsz : Maps.size D ≤ N := size_lt h1 K code N (fun es e p hp q hq he => by
   rw [hD] at e
   cases e
   have hin : ∀ p ∈ qs, (L p.1).isSome = true := fun p hp => by
    rw [← (h2 p.1 (hkl p hp)).1, hD, has_eq, List.any_eq_true]
    exact ⟨p, hp, WideAt.sameKey_self (hkl p hp)⟩
   exact h.inj _ _ (h.isOk _ (hkl p hp) (hin p hp)) (h.isOk _ (hkl q hq) (hin q hq)) he) (fun es e p hp => by
   rw [hD] at e
   cases e
   exact h.lt _ (h.isOk _ (hkl p hp) (by
    rw [← (h2 p.1 (hkl p hp)).1, hD, has_eq, List.any_eq_true]
    exact ⟨p, hp, WideAt.sameKey_self (hkl p hp)⟩)))
 have hmax := h.max
 obtain ⟨w', hrun, h3, h4⟩ := (owns_size h1).update K ht (by omega) hkey (val := val) (d := .held val) (ps := []) rfl
 refine ⟨w', hrun, ⟨⟨_, _, h3, fun l hl => ?_⟩, fun l hl hs => ?_, h.inj, h.lt, h.max⟩, h4⟩
 ·have him : IsMap D := ⟨qs, hD⟩
  by_cases e : l = kl
  ·subst e
   simp only [if_true]
   exact ⟨has_put_same him hl _, fun v hv z => by cases hv; exact atKey_put_same him hl _ _⟩
  ·rw [if_neg e]
   obtain ⟨e1, e2⟩ := h2 l hl
   exact ⟨by rw [has_put_other e]; exact e1, fun v hv z => by rw [atKey_put_other e]; exact e2 v hv z⟩
 ·by_cases e : l = kl
  ·subst e; exact hok
  ·rw [if_neg e] at hs
   exact h.isOk l hl hs
theorem MapA.made (k : TypeId) (w : World) (code : Lit → Nat) (N : Nat) (ok : Lit → Prop) (hinj : ∀ l m, ok l → ok m → code l = code m → l = m) (hlt : ∀ l, ok l → code l < N) (hmax : N < maxLen) : MapA k (w.alloc (.map #[] 0)) w.heap.size code N ok (fun _ => none) :=
 ⟨⟨0, .map [], World.ownsMap_made w Tryz.prog k RV, fun l hl => ⟨rfl, fun v hv => by cases hv⟩⟩, fun l hl hs => (by cases hs), hinj, hlt, hmax⟩
end
end Go.Proofs.YtgllmhheahlpjaaGreatDoor
namespace Go.Proofs.YtgllmhheahlpjaaGreatDoor
open Go.RowKit Go.Proofs.YtgllmhheahlpjaaGreatDoor.Fl
theorem compare_self (m : Int) : compare m m = .eq := by simp
theorem run_min_float {x y : Nat} {m n : Int} (hx : val x = some m) (hy : val y = some n) :
  ∃ z, val z = some (min m n) ∧ ∀ (ts : Array TypeId) (t : TypeId) (w : World), Sem.run Tryz.prog (Builtin.min_ ts t #[.float .f64 x, .float .f64 y]) w = .ok (.float .f64 z) w := by
 have ho : FloatKind.f64.format.order x y = some (compare m n) := by rw [order_rfl, order_val hx hy]
 rcases Int.lt_trichotomy m n with h | h | h
 ·rw [Int.compare_eq_lt.2 h] at ho
  refine ⟨x, by rw [hx]; congr 1; omega, fun ts t w => ?_⟩
  simp [Builtin.min_, Builtin.min2, ho]
 ·subst h
  rw [compare_self] at ho
  refine ⟨if (FloatKind.f64.decode x).neg then x else y, by split <;> simp [hx, hy], fun ts t w => ?_⟩
  simp [Builtin.min_, Builtin.min2, ho]
 ·rw [Int.compare_eq_gt.2 h] at ho
  refine ⟨y, by rw [hy]; congr 1; omega, fun ts t w => ?_⟩
  simp [Builtin.min_, Builtin.min2, ho]
theorem run_max_float {x y : Nat} {m n : Int} (hx : val x = some m) (hy : val y = some n) :
  ∃ z, val z = some (max m n) ∧ ∀ (ts : Array TypeId) (t : TypeId) (w : World), Sem.run Tryz.prog (Builtin.max_ ts t #[.float .f64 x, .float .f64 y]) w = .ok (.float .f64 z) w := by
 have ho : FloatKind.f64.format.order x y = some (compare m n) := by rw [order_rfl, order_val hx hy]
 rcases Int.lt_trichotomy m n with h | h | h
 ·rw [Int.compare_eq_lt.2 h] at ho
  refine ⟨y, by rw [hy]; congr 1; omega, fun ts t w => ?_⟩
  simp [Builtin.max_, Builtin.max2, ho]
 ·subst h
  rw [compare_self] at ho
  refine ⟨if (FloatKind.f64.decode x).neg then y else x, by split <;> simp [hx, hy], fun ts t w => ?_⟩
  simp [Builtin.max_, Builtin.max2, ho]
 ·rw [Int.compare_eq_gt.2 h] at ho
  refine ⟨x, by rw [hx]; congr 1; omega, fun ts t w => ?_⟩
  simp [Builtin.max_, Builtin.max2, ho]
theorem meet_both (x y a b : Nat) (m n c d : Int) (w : World) (h : sp x y = some (m, n)) (h' : sp a b = some (c, d)) : Calls Tryz.prog 35 #[.complex .f64 x y, .complex .f64 a b] w fun e w' => e = .returned (.bool (decide (max m c < min n d))) ∧ w = w' := by
 obtain ⟨hx, hy, _, _, _⟩ := sp_some h
 obtain ⟨ha, hb, _, _, _⟩ := sp_some h'
 have H1 := Lib.hid (fun w => may_yes x y m n w h)
 have H2 := Lib.hid (fun w => may_yes a b c d w h')
 obtain ⟨p, hp, r1⟩ := run_max_float hx ha
 obtain ⟨q, hq, r2⟩ := run_min_float hy hb
 have ho : FloatKind.f64.format.order p q = some (compare (max m c) (min n d)) := by rw [order_rfl, order_val hp hq]
 have hl : (FloatKind.f64.format.order p q == some .lt) = decide (max m c < min n d) := by
  rw [ho]
  rcases Int.lt_trichotomy (max m c) (min n d) with g | g | g
  ·rw [Int.compare_eq_lt.2 g]; simp [g]
  ·rw [g, compare_self]; simp
  ·rw [Int.compare_eq_gt.2 g]
   have : ¬ max m c < min n d := by omega
   simp only [this, decide_false]; rfl
 have HL := Lib.hid hl
 clear hx hy ha hb h h' hp hq ho hl
 go_enter Tryz.func35, Tryz.ntmps35
 go_wp2_with fail
 refine (H1.out _).mono ?_; rintro e w' ⟨rfl, rfl⟩
 go_wp2_with fail
 refine (H2.out _).mono ?_; rintro e w' ⟨rfl, rfl⟩
 go_wp2
 go_ret
 refine ⟨?_, rfl⟩
 exact congrArg (fun t => Ending.returned (Value.bool t)) HL.out
end Go.Proofs.YtgllmhheahlpjaaGreatDoor
namespace Go.Proofs.YtgllmhheahlpjaaGreatDoor
open Go.RowKit Go.Proofs.YtgllmhheahlpjaaGreatDoor.Fl
theorem cut_no (t : ByteArray) (x y : Nat) (w : World) (h : sp x y = none) :
  Calls Tryz.prog 47 #[.string t, .complex .f64 x y] w fun e w' => e = .returned (.string ByteArray.empty) ∧ w = w' := by
 have H1 := Lib.hid (fun w => may_no x y w h)
 clear h
 go_enter Tryz.func47, Tryz.ntmps47
 go_wp2_with fail
 refine wp_scope_fwd 0 rfl ?_
 go_wp2_with fail
 refine (H1.out _).mono ?_; rintro e w' ⟨rfl, rfl⟩
 go_wp2
 go_step3
 refine ⟨rfl, ?_⟩
 change Code.wp _ _ _ _ _
 go_wp2
 rw [Exit.noGoto_ret]
 go_ret
 exact ⟨rfl, rfl⟩
theorem cut_in (t : ByteArray) (x y m n : Nat) (w : World) (ht : t.size ≤ maxLen) (h : sp x y = some ((m : Int), (n : Int))) (h1 : m ≤ n) (h2 : n ≤ t.size) :
  Calls Tryz.prog 47 #[.string t, .complex .f64 x y] w fun e w' => e = .returned (.string (t.extract m n)) ∧ w = w' := by
 unfold maxLen at ht
 have H1 := Lib.hid (fun w => may_yes x y m n w h)
 have H2 := Lib.hid (fun w => from_yes x y m n w h)
 have H3 := Lib.hid (fun w => to_yes x y m n w h)
 have c0 : ¬ (t.size : Int) < m := by omega
 have c1 : ¬ (t.size : Int) < n := by omega
 have e1 : min (m : Int) (t.size : Int) = (m : Int) := by omega
 have e2 : min (n : Int) (t.size : Int) = (n : Int) := by omega
 clear h
 go_enter Tryz.func47, Tryz.ntmps47
 go_wp2_with fail
 go_step3
 go_wp2_with fail
 refine (H1.out _).mono ?_; rintro e w' ⟨rfl, rfl⟩
 go_wp2_with fail
 refine (H2.out _).mono ?_; rintro e w' ⟨rfl, rfl⟩
 go_wp2_with fail
 refine (H3.out _).mono ?_; rintro e w' ⟨rfl, rfl⟩
 go_wp2
 rw [Exit.noGoto_ret]
 go_ret
 exact ⟨rfl, rfl⟩
end Go.Proofs.YtgllmhheahlpjaaGreatDoor
namespace Go.Proofs.YtgllmhheahlpjaaGreatDoor
open Go.RowKit Go.Proofs.YtgllmhheahlpjaaGreatDoor.Fl
def cutO (s : List UInt8) : Option (Nat × Nat) → List UInt8
 | some (a, b) => (s.drop a).take (b - a)
 | none => []
theorem extract_list (s : List UInt8) (a b : Nat) : (⟨s.toArray⟩ : ByteArray).extract a b = ⟨((s.drop a).take (b - a)).toArray⟩ := by
 apply ByteArray.ext
 rw [ByteArray.data_extract]
 simp [List.extract_eq_take_drop]
theorem cut_sp (s : List UInt8) (hs : s.length ≤ 999999999) (o : Option (Nat × Nat)) (ho : ∀ a b, o = some (a, b) → a ≤ b ∧ b ≤ s.length) (w : World) :
  Calls Tryz.prog 47 #[.string ⟨s.toArray⟩, spV o] w fun e w' => e = .returned (.string ⟨(cutO s o).toArray⟩) ∧ w' = w := by
 cases o with
 | none =>
  refine (cut_no ⟨s.toArray⟩ NEGB NEGB w (by unfold sp; rw [val_neg]; rfl)).mono ?_
  rintro e w' ⟨h1, h2⟩; exact ⟨h1, h2.symm⟩
 | some p =>
  obtain ⟨a, b⟩ := p
  obtain ⟨h1, h2⟩ := ho a b rfl
  have hv : ∀ a : Nat, a ≤ 999999999 → val (floatOfInt .f64 (a : Int)) = some (a : Int) := fun a h => val_floatOfInt (by have : (2 : Nat) ^ 53 = 9007199254740992 := rfl; omega)
  have hsz : (⟨s.toArray⟩ : ByteArray).size = s.length := by simp [ByteArray.size]
  refine (cut_in ⟨s.toArray⟩ (floatOfInt .f64 (a : Int)) (floatOfInt .f64 (b : Int)) a b w (by rw [hsz]; unfold maxLen; omega) (sp_of (hv a (by omega)) (hv b (by omega)) (by omega) (by omega) (by omega)) h1 (by rw [hsz]; exact h2)).mono ?_
  rintro e w' ⟨h3, h4⟩
  refine ⟨?_, h4.symm⟩
  rw [h3, extract_list]
  rfl
end Go.Proofs.YtgllmhheahlpjaaGreatDoor
