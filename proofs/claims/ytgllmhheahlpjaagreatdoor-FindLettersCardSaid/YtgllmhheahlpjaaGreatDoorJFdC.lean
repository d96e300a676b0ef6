/- find: what is found, one behind the other; of no program. -/
import Derived.Test.YtgllmhheahlpjaaGreatDoorJMbH
import Derived.Test.YtgllmhheahlpjaaGreatDoorJMdN
import Derived.RangeFuncNested
import Derived.RangeFuncBound
import Derived.RangeFuncCalls
import Derived.RangeFuncLeaves
import Derived.RangeFuncBox
import Derived.Shelf.Abstract
import Derived.Shelf.RegionOpen
import Derived.OwnWalkIn
import Derived.TacticsInMore
import Derived.LoopNIn
import Derived.LoopIn
import Derived.Maps.AppendAt
set_option linter.unusedVariables false
set_option linter.unusedSimpArgs false
set_option maxRecDepth 100000
set_option maxHeartbeats 40000000
namespace Go.Proofs.YtgllmhheahlpjaaGreatDoor
open Go.RowKit Go.Lib
def least (f : Nat → Bool) : Nat → Nat → Option Nat
 | 0, _ => none
 | d + 1, k => if f k = true then some k else least f d (k + 1)
theorem least_some {f : Nat → Bool} : ∀ {d k i : Nat}, least f d k = some i → k ≤ i ∧ i < k + d ∧ f i = true ∧ ∀ j, k ≤ j → j < i → f j = false
 | 0, k, i, h => by cases h
 | d + 1, k, i, h => by
  rw [least] at h
  split at h
  ·cases h; exact ⟨Nat.le_refl _, by omega, by assumption, fun j h1 h2 => absurd h2 (by omega)⟩
  ·rename_i q
   obtain ⟨h1, h2, h3, h4⟩ := least_some h
   refine ⟨by omega, by omega, h3, fun j h5 h6 => ?_⟩
   by_cases e : j = k
   ·subst e; simpa using q
   ·exact h4 j (by omega) h6
theorem least_none {f : Nat → Bool} : ∀ {d k : Nat}, least f d k = none → ∀ j, k ≤ j → j < k + d → f j = false
 | 0, k, h, j, h1, h2 => by omega
 | d + 1, k, h, j, h1, h2 => by
  rw [least] at h
  split at h
  ·cases h
  ·rename_i q
   by_cases e : j = k
   ·subst e; simpa using q
   ·exact least_none h j (by omega) (by omega)
def Bd (n : Nat) (F : Nat → Option Nat) : Prop := ∀ k m, F k = some m → k ≤ m ∧ m ≤ n
def fstP (F : Nat → Option Nat) (n : Nat) (k : Nat) : Option (Nat × Nat) := match least (fun i => (F i).isSome) (n + 1 - k) k with
 | some i => (F i).map fun m => (i, m)
 | none => none
theorem fst_some {F : Nat → Option Nat} {n : Nat} (hF : Bd n F) {k i m : Nat} (h : fstP F n k = some (i, m)) : k ≤ i ∧ i ≤ m ∧ m ≤ n ∧ F i = some m ∧ ∀ j, k ≤ j → j < i → F j = none := by
 unfold fstP at h
 split at h
 ·rename_i x hx
  have hl := least_some hx
  cases hm : F x with
  | none => rw [hm] at h; cases h
  | some y =>
   rw [hm] at h
   simp only [Option.map_some, Option.some.injEq, Prod.mk.injEq] at h
   obtain ⟨rfl, rfl⟩ := h
   have hg := hF _ _ hm
   exact ⟨hl.1, hg.1, hg.2, hm, fun j h1 h2 => by
    have := hl.2.2.2 j h1 h2
    cases e : F j with
    | none => rfl
    | some z => rw [e] at this; cases this⟩
 ·cases h
theorem fst_none {F : Nat → Option Nat} {n : Nat} {k : Nat} (h : fstP F n k = none) : ∀ j, k ≤ j → j ≤ n → F j = none := fun j h1 h2 => by
 unfold fstP at h
 split at h
 ·rename_i x hx
  have hl := least_some hx
  cases hm : F x with
  | none => have := hl.2.2.1; rw [hm] at this; cases this
  | some y => rw [hm] at h; cases h
 ·rename_i hx
  have := least_none hx j h1 (by omega)
  cases e : F j with
  | none => rfl
  | some z => rw [e] at this; cases this
def nxtP (F : Nat → Option Nat) (n : Nat) (e : Nat) : Option (Nat × Nat) := match fstP F n e with
 | some (i, m) => if m = e then fstP F n (e + 1) else some (i, m)
 | none => none
theorem nxt_some {F : Nat → Option Nat} {n : Nat} (hF : Bd n F) {e i m : Nat} (h : nxtP F n e = some (i, m)) : e ≤ i ∧ i ≤ m ∧ e < m ∧ m ≤ n ∧ F i = some m ∧ ∀ j, e ≤ j → j < i → F j = none ∨ (j = e ∧ F j = some e) := by
 unfold nxtP at h
 split at h
 ·rename_i i0 m0 h0
  have h1 := fst_some hF h0
  split at h
  ·rename_i q
   have h2 := fst_some hF h
   refine ⟨by omega, h2.2.1, by omega, h2.2.2.1, h2.2.2.2.1, fun j h3 h4 => ?_⟩
   by_cases ej : j = e
   ·subst ej
    have : i0 = j := by omega
    subst this
    right
    exact ⟨rfl, by rw [h1.2.2.2.1, q]⟩
   ·exact .inl (h2.2.2.2.2 j (by omega) h4)
  ·simp only [Option.some.injEq, Prod.mk.injEq] at h
   obtain ⟨rfl, rfl⟩ := h
   exact ⟨h1.1, h1.2.1, by omega, h1.2.2.1, h1.2.2.2.1, fun j h3 h4 => .inl (h1.2.2.2.2 j h3 h4)⟩
 ·cases h
def goP (F : Nat → Option Nat) (n : Nat) : Nat → Option (Nat × Nat) → List (Nat × Nat)
 | 0, _ => []
 | f + 1, none => []
 | f + 1, some (i, m) => (i, m) :: goP F n f (nxtP F n m)
def allP (F : Nat → Option Nat) (n : Nat) : List (Nat × Nat) := goP F n (n + 2) (fstP F n 0)
theorem go_none {F : Nat → Option Nat} {n : Nat} : ∀ f, goP F n f none = []
 | 0 => rfl
 | f + 1 => rfl
theorem go_mem {F : Nat → Option Nat} {n : Nat} (hF : Bd n F) : ∀ (f : Nat) (p : Option (Nat × Nat)), (∀ x, p = some x → F x.1 = some x.2 ∧ x.1 ≤ x.2 ∧ x.2 ≤ n) → ∀ x ∈ goP F n f p, F x.1 = some x.2 ∧ x.1 ≤ x.2 ∧ x.2 ≤ n
 | 0, p, h, x, hx => by cases hx
 | f + 1, none, h, x, hx => by cases hx
 | f + 1, some (i, m), h, x, hx => by
  rw [goP] at hx
  rcases List.mem_cons.1 hx with rfl | hx
  ·exact h _ rfl
  ·refine go_mem hF f (nxtP F n m) (fun y hy => ?_) x hx
   obtain ⟨i2, m2⟩ := y
   have hn := nxt_some hF hy
   exact ⟨hn.2.2.2.2.1, hn.2.1, hn.2.2.2.1⟩
theorem go_pair {F : Nat → Option Nat} {n : Nat} (hF : Bd n F) : ∀ (f : Nat) (p : Option (Nat × Nat)) (k : Nat) (x y : Nat × Nat), (goP F n f p)[k]? = some x → (goP F n f p)[k + 1]? = some y → nxtP F n x.2 = some y
 | 0, p, k, x, y, h1, h2 => by simp [goP] at h1
 | f + 1, none, k, x, y, h1, h2 => by simp [goP] at h1
 | f + 1, some (i, m), 0, x, y, h1, h2 => by
  simp only [goP, List.getElem?_cons_zero, Option.some.injEq] at h1
  subst h1
  simp only [goP, Nat.zero_add, List.getElem?_cons_succ] at h2
  cases e : nxtP F n m with
  | none => rw [e, go_none] at h2; simp at h2
  | some q =>
   rw [e] at h2
   cases f with
   | zero => simp [goP] at h2
   | succ f =>
    obtain ⟨q1, q2⟩ := q
    simp only [goP, List.getElem?_cons_zero, Option.some.injEq] at h2
    rw [← h2]; try exact e
 | f + 1, some (i, m), k + 1, x, y, h1, h2 => by
  simp only [goP, List.getElem?_cons_succ] at h1 h2
  exact go_pair hF f _ k x y h1 h2
theorem all_mem {F : Nat → Option Nat} {n : Nat} (hF : Bd n F) {x : Nat × Nat} (h : x ∈ allP F n) : F x.1 = some x.2 ∧ x.1 ≤ x.2 ∧ x.2 ≤ n :=
 go_mem hF _ _ (fun y hy => by obtain ⟨i, m⟩ := y; have := fst_some hF hy; exact ⟨this.2.2.2.1, this.2.1, this.2.2.1⟩) x h
theorem all_rises {F : Nat → Option Nat} {n : Nat} (hF : Bd n F) {k : Nat} {x y : Nat × Nat} (h1 : (allP F n)[k]? = some x) (h2 : (allP F n)[k + 1]? = some y) : x.2 ≤ y.1 ∧ x.2 < y.2 := by
 obtain ⟨i, m⟩ := y
 have := nxt_some hF (go_pair hF _ _ k x (i, m) h1 h2)
 exact ⟨this.1, this.2.2.1⟩
theorem all_between {F : Nat → Option Nat} {n : Nat} (hF : Bd n F) {k : Nat} {x y : Nat × Nat} (h1 : (allP F n)[k]? = some x) (h2 : (allP F n)[k + 1]? = some y) : ∀ j, x.2 ≤ j → j < y.1 → F j = none ∨ (j = x.2 ∧ F j = some x.2) := by
 obtain ⟨i, m⟩ := y
 exact (nxt_some hF (go_pair hF _ _ k x (i, m) h1 h2)).2.2.2.2.2
theorem all_first {F : Nat → Option Nat} {n : Nat} {x : Nat × Nat} (h : (allP F n)[0]? = some x) : fstP F n 0 = some x := by
 unfold allP at h
 cases e : fstP F n 0 with
 | none => rw [e, go_none] at h; simp at h
 | some p =>
  obtain ⟨i, m⟩ := p
  rw [e, show n + 2 = (n + 1) + 1 by omega, goP] at h
  simpa using h
theorem all_none {F : Nat → Option Nat} {n : Nat} : (0 < (allP F n).length) ↔ (fstP F n 0).isSome = true := by
 unfold allP
 cases e : fstP F n 0 with
 | none => simp [go_none]
 | some p =>
  obtain ⟨i, m⟩ := p
  rw [show n + 2 = (n + 1) + 1 by omega, goP]
  simp
theorem least_ext {f : Nat → Bool} {N : Nat} : ∀ {d k i : Nat}, k + d = N → k ≤ i → i < N → f i = true → (∀ j, k ≤ j → j < i → f j = false) → least f d k = some i
 | 0, k, i, h1, h2, h3, h4, h5 => by omega
 | d + 1, k, i, h1, h2, h3, h4, h5 => by
  rw [least]
  by_cases e : k = i
  ·subst e; rw [if_pos h4]
  ·rw [if_neg (by rw [h5 k (Nat.le_refl _) (by omega)]; simp)]
   exact least_ext (N := N) (by omega) (by omega) h3 h4 (fun j h6 h7 => h5 j (by omega) h7)
theorem least_ext_none {f : Nat → Bool} : ∀ {d k : Nat}, (∀ j, k ≤ j → j < k + d → f j = false) → least f d k = none
 | 0, k, h => rfl
 | d + 1, k, h => by
  rw [least, if_neg (by rw [h k (Nat.le_refl _) (by omega)]; simp)]
  exact least_ext_none (fun j h1 h2 => h j (by omega) (by omega))
theorem fst_ext {F : Nat → Option Nat} {n : Nat} (hF : Bd n F) {k i m : Nat} (h1 : k ≤ i) (h2 : F i = some m) (h3 : ∀ j, k ≤ j → j < i → F j = none) : fstP F n k = some (i, m) := by
 have hb := hF _ _ h2
 have : least (fun i => (F i).isSome) (n + 1 - k) k = some i := least_ext (N := n + 1) (by omega) h1 (by omega) (by simp [h2]) (fun j h4 h5 => by simp [h3 j h4 h5])
 unfold fstP
 rw [this]
 simp [h2]
theorem fst_ext_none {F : Nat → Option Nat} {n : Nat} {k : Nat} (h : ∀ j, k ≤ j → j ≤ n → F j = none) : fstP F n k = none := by
 have : least (fun i => (F i).isSome) (n + 1 - k) k = none := least_ext_none (fun j h1 h2 => by simp [h j h1 (by omega)])
 unfold fstP
 rw [this]
theorem fst_step {F : Nat → Option Nat} {n : Nat} (hF : Bd n F) {k : Nat} (h : F k = none) : fstP F n k = fstP F n (k + 1) := by
 cases e : fstP F n (k + 1) with
 | none => exact fst_ext_none (fun j h1 h2 => by
   by_cases q : j = k
   ·subst q; exact h
   ·exact fst_none e j (by omega) h2)
 | some p =>
  obtain ⟨i, m⟩ := p
  have q := fst_some hF e
  exact fst_ext hF (by omega) q.2.2.2.1 (fun j h1 h2 => by
   by_cases q' : j = k
   ·subst q'; exact h
   ·exact q.2.2.2.2 j (by omega) h2)
theorem fst_hit {F : Nat → Option Nat} {n : Nat} (hF : Bd n F) {k m : Nat} (h : F k = some m) : fstP F n k = some (k, m) := fst_ext hF (Nat.le_refl _) h (fun j h1 h2 => by omega)
theorem fst_over {F : Nat → Option Nat} {n : Nat} {k : Nat} (h : n < k) : fstP F n k = none := fst_ext_none (fun j h1 h2 => by omega)
theorem fst_later {F : Nat → Option Nat} {n : Nat} (hF : Bd n F) {a b i m : Nat} (hab : a ≤ b) (h : fstP F n a = some (i, m)) (hb : b ≤ i) : fstP F n b = some (i, m) := by
 have q := fst_some hF h
 exact fst_ext hF hb q.2.2.2.1 (fun j h1 h2 => q.2.2.2.2 j (by omega) h2)
theorem fst_later_none {F : Nat → Option Nat} {n : Nat} {a b : Nat} (hab : a ≤ b) (h : fstP F n a = none) : fstP F n b = none :=
 fst_ext_none (fun j h1 h2 => fst_none h j (by omega) h2)
def capP (C : Nat → Cp) : Option (Nat × Nat) → Cp
 | some x => C x.1
 | none => fun _ => none
end Go.Proofs.YtgllmhheahlpjaaGreatDoor
namespace Go.Proofs.YtgllmhheahlpjaaGreatDoor
open Go.RowKit Go.Lib Go.Maps Go.WideMaps
section
variable (p : Option Addr) (n cap : Nat) (s : List UInt8) (w : World) (C : Nat → Cp) (F : Nat → Option Nat)
structure FindF : Prop where
 bd : Bd s.length F
 at0 : ∀ k m, F k = some m → C k 0 = some (k, m)
 len : s.length ≤ 9
 ok : ∀ k, CapOk s.length (C k)
 lg : ∀ k, k ≤ s.length → LongK p n cap s w k (C k) (F k).isSome
def FirstK (k : Int) (q : Option (Nat × Nat)) : Prop := ∀ W, Below w.heap.size w W → Calls Tryz.prog 27 #[.slice p n cap, .string ⟨s.toArray⟩, .int .i64 k] W fun e w' => e = .returned (.tuple #[capV (capP C q), .bool q.isSome]) ∧ Below W.heap.size W w'
variable {p n cap s w C F}
theorem ffirst_c (h : FindF p n cap s w C F) (fr : Int) (k : Nat) (hk : max fr 0 = (k : Int)) (hkm : k ≤ 9223372036854775807) : FirstK p n cap s w C fr (fstP F s.length k) := by
 intro w0 hB0
 have hsz : (⟨s.toArray⟩ : ByteArray).size = s.length := by simp [ByteArray.size]
 have hlen := h.len
 have HH := Lib.hid h
 have HB0 := Lib.hid hB0
 obtain ⟨q, hq⟩ : ∃ q, q = fstP F s.length k := ⟨_, rfl⟩
 rw [← hq]
 have HQ := Lib.hid hq
 have hrz : VRow (w0.alloc (.cells cZ 27)) w0.heap.size 10 27 (fun _ => .complex .f64 0 0) := VRow.new w0 10 27 (fun _ => .complex .f64 0 0)
 have hb0 : Below w0.heap.size w0 (w0.alloc (.cells cZ 27)) := (Below.refl _ w0).alloc (Nat.le_refl _) _
 have HZ0 := Lib.hid (And.intro hrz hb0)
 clear h hB0 hq hrz hb0
 go_enter Tryz.func27, Tryz.ntmps27
 go_wp2
 go_loopw [7, 8] (fun rv iv wr => rv = .bool false ∧ ∃ j : Nat, k ≤ j ∧ iv = .int .i64 (j : Int) ∧ q = fstP F s.length j ∧ Below (w0.heap.size + 1) (w0.alloc (.cells cZ 27)) wr ∧ j ≤ 9223372036854775807) (fun _ iv _ => s.length + 1 - (RowKit.intOf iv).toNat)
 case atStart => exact ⟨rfl, k, Nat.le_refl _, by first | rfl | (rw [hk]) | (simp [hk]), HQ.out, by have := Below.refl (w0.alloc (.cells cZ 27)).heap.size (w0.alloc (.cells cZ 27)); rwa [World.size_alloc] at this, hkm⟩
 case round =>
  obtain ⟨rfl, j, hkj, rfl, hqj, hBr, hjm⟩ := hrel
  have hs0 : w0.heap.size + 1 ≤ wr.heap.size := by have := hBr.size; simpa using this
  have hB0r : Below w0.heap.size w0 wr := HZ0.out.2.trans (hBr.mono (by omega))
  have hBw := HB0.out.trans (hB0r.mono HB0.out.size)
  have hrz := (HZ0.out.1).below hBr (Nat.lt_succ_self _)
  have HR := Lib.hid (And.intro hBr (And.intro hBw hrz))
  have HQJ := Lib.hid hqj
  clear hBr hB0r hBw hrz hqj
  by_cases hlt : j ≤ s.length
  ·have hli : (j : Int) ≤ (s.length : Int) := by omega
   cases hfj : F j with
   | none =>
    have HL := Lib.hid (HH.out.lg j hlt wr HR.out.2.1)
    rw [hfj, Option.isSome_none] at HL
    have HF := Lib.hid hfj
    clear hfj
    go_wp2_with fail
    refine HL.out.mono ?_
    rintro e w3 ⟨rfl, hB3⟩
    have HB3 := Lib.hid hB3
    clear hB3 HL
    unfold capV
    go_wp2
    go_roundw
    case rel => exact ⟨rfl, j + 1, by omega, by go_num, by rw [HQJ.out]; exact fst_step HH.out.bd HF.out, HR.out.1.trans ((HB3.out.alloc HB3.out.size _).mono hs0), by omega⟩
    case measure => (simp [RowKit.intOf]) <;> omega
   | some m =>
    have HL := Lib.hid (HH.out.lg j hlt wr HR.out.2.1)
    rw [hfj, Option.isSome_some] at HL
    have hq1 : q = some (j, m) := by rw [HQJ.out]; exact fst_hit HH.out.bd hfj
    obtain ⟨Z, hZ⟩ : ∃ Z, Z = C j := ⟨_, rfl⟩
    rw [← hZ] at HL
    have HRR : Hid (q = some (j, m) ∧ Z = capP C q) := Lib.hid ⟨hq1, by rw [hq1]; exact hZ⟩
    clear hfj hq1 hZ
    go_wp2_with fail
    refine HL.out.mono ?_
    rintro e w3 ⟨rfl, hB3⟩
    have hB4 := hB3.alloc hB3.size (.cells (cH Z) 27)
    have l3 := hB3.size
    obtain ⟨k0, k1, k2, k3, k4, k5, k6, k7, k8, k9⟩ := capBlk.ten (capBlk w3 Z)
    have H5 := Lib.hid (And.intro (HR.out.2.2.below hB4 (by omega)) (HR.out.1.trans (hB4.mono hs0)))
    have HR := HRR
    clear hB3 HL hB4 HRR
    obtain ⟨r0, r1, r2, r3, r4, r5, r6, r7, r8, r9, f0, f1, f2, f3, f4, f5, f6, f7, f8, f9⟩ := (H5.out.1).rf10
    obtain ⟨s0, s1, s2, s3, s4, s5, s6, s7, s8, s9⟩ := st10 (b := w0.heap.size) H5.out.1 Z
    have HKS := Lib.hid (kp10 (w := w3.alloc (.cells (cH Z) 27)) (b := w0.heap.size) Z)
    have HSS := Lib.hid (And.intro s0 (And.intro s1 (And.intro s2 (And.intro s3 (And.intro s4 (And.intro s5 (And.intro s6 (And.intro s7 (And.intro s8 s9)))))))))
    clear s0 s1 s2 s3 s4 s5 s6 s7 s8 s9
    unfold capV
    go_wp2
    obtain ⟨s0, s1, s2, s3, s4, s5, s6, s7, s8, s9⟩ := HSS.out
    refine bodyPost_ret (v := .tuple #[.agg (cH Z), .bool true]) (by simp [results, Tryz.results27, go_sem, s0, s1, s2, s3, s4, s5, s6, s7, s8, s9]) rfl ⟨?_, ?_⟩
    ·show Ending.returned (.tuple #[capV Z, .bool true]) = Ending.returned (.tuple #[capV (capP C q), .bool q.isSome])
     rw [← HR.out.2, HR.out.1]; rfl
    ·exact HZ0.out.2.trans (H5.out.2.mono (by omega) |>.trans (HKS.out.below (by first | omega | (rw [World.size_alloc]; omega)) (fun i e => by subst e; exact Nat.le_refl _)))
  ·have hli : ¬ (j : Int) ≤ (s.length : Int) := by omega
   have hq1 : q = none := by rw [HQJ.out]; exact fst_over (by omega)
   obtain ⟨Z, hZ⟩ : ∃ Z : Cp, Z = fun _ => none := ⟨_, rfl⟩
   have HN := Lib.hid (mnone_c wr)
   rw [← hZ] at HN
   have HRR : Hid (q = none ∧ Z = capP C q) := Lib.hid ⟨hq1, by rw [hq1]; exact hZ⟩
   clear hq1 hZ
   go_wp2_with fail
   refine HN.out.mono ?_
   rintro e w3 ⟨rfl, hB3⟩
   have l3 := hB3.size
   have H5 := Lib.hid (And.intro (HR.out.2.2.below hB3 (by omega)) (HR.out.1.trans (hB3.mono hs0)))
   have HR := HRR
   clear hB3 HN HRR
   obtain ⟨r0, r1, r2, r3, r4, r5, r6, r7, r8, r9, f0, f1, f2, f3, f4, f5, f6, f7, f8, f9⟩ := (H5.out.1).rf10
   obtain ⟨s0, s1, s2, s3, s4, s5, s6, s7, s8, s9⟩ := st10 (b := w0.heap.size) H5.out.1 Z
   have HKS := Lib.hid (kp10 (w := w3) (b := w0.heap.size) Z)
   have HSS := Lib.hid (And.intro s0 (And.intro s1 (And.intro s2 (And.intro s3 (And.intro s4 (And.intro s5 (And.intro s6 (And.intro s7 (And.intro s8 s9)))))))))
   clear s0 s1 s2 s3 s4 s5 s6 s7 s8 s9
   unfold capV
   go_wp2
   obtain ⟨s0, s1, s2, s3, s4, s5, s6, s7, s8, s9⟩ := HSS.out
   refine bodyPost_ret (v := .tuple #[.agg (cH Z), .bool false]) (by simp [results, Tryz.results27, go_sem, s0, s1, s2, s3, s4, s5, s6, s7, s8, s9]) rfl ⟨?_, ?_⟩
   ·show Ending.returned (.tuple #[capV Z, .bool false]) = Ending.returned (.tuple #[capV (capP C q), .bool q.isSome])
    rw [← HR.out.2, HR.out.1]; rfl
   ·exact HZ0.out.2.trans (H5.out.2.mono (by omega) |>.trans (HKS.out.below (by first | omega | (rw [World.size_alloc]; omega)) (fun i e => by subst e; exact Nat.le_refl _)))
end
end Go.Proofs.YtgllmhheahlpjaaGreatDoor
namespace Go.Proofs.YtgllmhheahlpjaaGreatDoor
open Go.RowKit
def StaysB {γ : Type} (B β : Nat) (J : γ → World → Prop) : Prop :=
 ∀ s X Y r, J s X → X.grownBy Y r → (∀ k, r = some k → B ≤ k ∧ (k = β ∨ ∃ o : Obj, X.heap[k]? = some o ∧ o.isCells = false)) → J s Y
def SeqB {α : Type} (F : Fence) (n : Nat) (P : Program) (g : Nat) (lb : Array Value) (encs : α → Array Value) (K : Nat → World → World → Prop) (S : List α → Prop) (N : Nat) (w : World) : Prop :=
 ∀ (l : Nat) (J : Nat → List α → World → Prop) (W : World), Below w.heap.size w W →
  (∀ β s X Y r, W.heap.size ≤ β → J β s X → X.grownBy Y r → (∀ k, r = some k → W.heap.size ≤ k ∧ (k = β ∨ ∃ o : Obj, X.heap[k]? = some o ∧ o.isWalk = true)) → J β s Y) →
  (∀ β pre x X, W.heap.size ≤ β → β < X.heap.size → J β pre X → pre.length < N → YieldAt F (n - 1) P l (encs x) X fun e Y => e = .returned (.bool true) ∧ J β (pre ++ [x]) Y ∧ K β X Y) →
  (∀ β, W.heap.size ≤ β → J β [] W) →
  CallsIn F n P g (#[.func (.yield l) #[] #[]] ++ lb) W fun e Y => (∃ v, e = .returned v) ∧ ∃ xs β, S xs ∧ W.heap.size ≤ β ∧ J β xs Y
variable {F : Fence} {n : Nat} {P : Program}
theorem wpIn_rangeB {α : Type} {g : Operand} {ps : Array Tmp} {assign body : Code} {Q : Exit → Act → World → Prop} {a : Act} {w : World}
  (hro : F.round = none) (h1 : 1 ≤ n) {gf : Nat} {lb : Array Value} (hg : a.eval g = .func (.func gf) #[] lb) (hFg : F.fn gf) (eg : ∀ args w, (callFunc gf args).run P w = .ok (.enter gf args) w)
  {encs : α → Array Value} {K : Nat → World → World → Prop} {S : List α → Prop} {N : Nat} (hseq : SeqB F (n - 1) P gf lb encs K S N w)
  (hKt : ∀ {β : Nat} {A B C : World}, K β A B → K β B C → K β A C) (hKb : ∀ (β : Nat) (W : World) (l : Nat) (o' : Obj), w.heap.size ≤ l → l < W.heap.size → l ≠ β → K β W (W.putObj l o')) (hps : ∀ x, (encs x).size = ps.size)
  (I : Nat → List α → World → Prop) (hI : ∀ β, StaysB w.heap.size β (I β)) (h0 : ∀ β, w.heap.size + 2 ≤ β → I β [] w) (A₁ : α → Act → World → Prop) (hA : ∀ x a', OwnFrom w.heap.size (fun (_ : Unit) W => A₁ x a' W))
  (hassign : ∀ (l β : Nat) (pre : List α) (x : α) (W : World) (Z : Act → World → Prop), β < W.heap.size → I β pre W → (∀ a' W', KeepsFrom w.heap.size W W' → K β W W' → I β pre W' → A₁ x a' W' → Z a' W') →
   assign.wpIn (F.inRound l) (n - 1 - 1) P (Exit.then Z (fun _ _ _ => False)) { tmps := (ps.zip (encs x)).foldl (fun t (p, v) => t.setIfInBounds p v) a.tmps, defers := [] } W)
  (hbody : ∀ (l β : Nat) (pre : List α) (x : α) (a' : Act) (W : World), β < W.heap.size → I β pre W → A₁ x a' W → pre.length < N →
   body.wpIn (F.inRound l) (n - 1 - 1) P (fun e _ W' => e = .normal ∧ KeepsFrom w.heap.size W W' ∧ K β W W' ∧ I β (pre ++ [x]) W') a' W)
  (hdone : ∀ (D β : Nat) (xs : List α) (W : World), w.heap.size ≤ D → S xs → I β xs W → W.heap[D]? = some (.deferred (some [])) → Q .normal { a with defers := { target := .collected D, args := #[] } :: a.defers } W) :
  (Code.rangeFunc g ps assign body).wpIn F n P Q a w := by
 refine wpIn_rangeFunc fun fn hfn => ?_
 rw [hro]
 obtain ⟨D, hD⟩ : ∃ D, D = w.heap.size := ⟨_, rfl⟩
 obtain ⟨R, hR⟩ : ∃ R : LoopState → Loop, R = fun st => { state := st, pending := none, fn, tmps := a.tmps, params := ps, assign, body, defers := D } := ⟨_, rfl⟩
 have hRs : ∀ st, (R st).state = st := fun st => by rw [hR]
 have hRu : ∀ st st', { R st with state := st' } = R st' := fun st st' => by rw [hR]
 obtain ⟨W1, hW1⟩ : ∃ W1, W1 = (w.alloc (.deferred (some []))).alloc (.loop (R .ready)) := ⟨_, rfl⟩
 have hz1 : W1.heap.size = D + 2 := by rw [hW1, World.size_alloc, World.size_alloc, hD]
 have hL1 : W1.heap[D + 1]? = some (.loop (R .ready)) := by
  have := World.alloc_heap_new (w.alloc (.deferred (some []))) (.loop (R .ready))
  rw [World.size_alloc, ← hD, ← hW1] at this
  exact this
 have hK1 : W1.heap[D]? = some (.deferred (some [])) := by
  rw [hW1, hD]
  exact (Below.heap_alloc _ _ _ (by simp)).trans (World.alloc_heap_new w _)
 have hB1 : Below w.heap.size w W1 := by rw [hW1]; exact ((Below.refl _ w).alloc (Nat.le_refl _) _).alloc (by simp) _
 have hI1 : ∀ β, D + 2 ≤ β → I β [] W1 := fun β hβ => by
  rw [hW1]
  refine hI β _ _ _ none (hI β _ _ _ none (h0 β (by omega)) (World.grownBy_alloc w _ none) (fun k e => by cases e)) (World.grownBy_alloc _ _ none) (fun k e => by cases e)
 rw [← hD] at hB1
 refine ⟨D + 1, [{ target := .collected D, args := #[] }], W1, { target := .fn (.func gf) lb, args := #[.func (.yield (D + 1)) #[] #[]] }, W1, gf, #[.func (.yield (D + 1)) #[] #[]] ++ lb, W1, ?_, ?_, ?_, ?_, fun _ => h1, ?_⟩
 ·rw [hW1, hR, hD]; exact run_enterLoop_outer _ _ _ _ _
 ·simp only [resolve, hg]
  simp [go_sem]
 ·intro f' hf'
  simp [Target.leads] at hf'
  subst hf'
  exact hFg
 ·simp [invoke, go_sem, eg]
 -- what the two blocks of the loop's own say stays
 have hold : ∀ {β : Nat} {X Y : World} {r : Option Nat} {k : Nat} {o : Obj}, D + 2 ≤ β → k < D + 2 → X.grownBy Y r → (∀ k, r = some k → W1.heap.size ≤ k ∧ (k = β ∨ ∃ o : Obj, X.heap[k]? = some o ∧ o.isWalk = true)) → X.heap[k]? = some o → Y.heap[k]? = some o := fun hβ hk hg hr ho =>
  (hg.block _ (Array.getElem?_eq_some_iff.1 ho).1 (fun e => by have := (hr _ e.symm).1; omega)).trans ho
 refine (hseq (D + 1) (fun β pre W => I β pre W ∧ W.heap[D + 1]? = some (.loop (R .ready)) ∧ W.heap[D]? = some (.deferred (some []))) W1 (by rw [← hD]; exact hB1) ?_ ?_ (fun β hβ => ⟨hI1 β (by omega), hL1, hK1⟩)).mono ?_
 ·rintro β s X Y r hβ ⟨hi, hl, hk⟩ hgr hr
  refine ⟨hI β s X Y r hi hgr (fun k e => ?_), hold (by omega) (by omega) hgr hr hl, hold (by omega) (by omega) hgr hr hk⟩
  obtain ⟨q1, q2⟩ := hr k e
  exact ⟨by omega, q2.imp id (fun ⟨o, ho, hw⟩ => ⟨o, ho, Obj.not_cells_of_walk hw⟩)⟩
 ·-- a round
  rintro β pre x W hβ hlt ⟨hi, hl, hk⟩ hlen
  have hy := run_yield (P := P) (args := encs x) hl (by rw [hR]; exact hps x)
  rw [show (R .ready).fn = fn by rw [hR], show (R .ready).tmps = a.tmps by rw [hR], show (R .ready).params = ps by rw [hR], show (R .ready).assign = assign by rw [hR], show (R .ready).body = body by rw [hR]] at hy
  refine ⟨fn, _, assign, body, hy, roundIn_of_wpIn hfn (hassign _ β pre x W _ hlt hi ?_)⟩
  intro a' X hkX hKX hiX hA1
  have hlX := hkX.same _ _ (by omega) hl rfl
  have hkk := hkX.same _ _ (by omega) hk rfl
  have hltX : D + 1 < X.heap.size := (Array.getElem?_eq_some_iff.1 hlX).1
  refine ⟨_, run_beginRound hlX (hRs _), ?_⟩
  rw [hRu]
  obtain ⟨X2, hX2⟩ : ∃ X2, X2 = X.putObj (D + 1) (.loop (R .busy)) := ⟨_, rfl⟩
  rw [← hX2]
  have hl2 : X2.heap[D + 1]? = some (.loop (R .busy)) := by rw [hX2]; exact World.putObj_heap_same hltX
  have hk2 : X2.heap[D]? = some (.deferred (some [])) := by rw [hX2]; exact (World.putObj_heap_other (by omega)).trans hkk
  have hg2 : X.grownBy X2 (some (D + 1)) := by rw [hX2]; exact grownBy_putObj' X _ _
  have hi2 : I β pre X2 := hI β _ _ _ _ hiX hg2 (fun k e => by cases e; exact ⟨by omega, .inr ⟨_, hlX, rfl⟩⟩)
  have hA2 : A₁ x a' X2 := by rw [hX2]; exact (hA x a').putObj (s := ()) _ hA1 (by omega) hlX rfl
  have hK2 : K β X X2 := by rw [hX2]; exact hKb _ _ _ _ (by omega) hltX (by omega)
  refine wpIn_mono (hbody _ β pre x a' X2 (by have h3 := hkX.size; have h4 := hg2.size; omega) hi2 hA2 hlen) ?_
  rintro e a3 X3 ⟨rfl, hk3, hK3, hi3⟩
  have hl3 := hk3.same _ _ (by omega) hl2 rfl
  have hlt3 : D + 1 < X3.heap.size := (Array.getElem?_eq_some_iff.1 hl3).1
  have hr3 := run_endRound (P := P) none hl3
  have e3 : ({ R .busy with state := if (none : Option Code).isNone then .ready else .done, pending := none } : Loop) = R .ready := by rw [hR]; rfl
  rw [e3] at hr3
  refine ⟨_, _, hr3, rfl, ⟨hI β _ _ _ _ hi3 (grownBy_putObj' X3 (D + 1) _) (fun k e => by cases e; exact ⟨by omega, .inr ⟨_, hl3, rfl⟩⟩), World.putObj_heap_same hlt3, (World.putObj_heap_other (by omega)).trans (hk3.same _ _ (by omega) hk2 rfl)⟩, hKt hKX (hKt (hKt hK2 hK3) (hKb _ _ _ _ (by omega) hlt3 (by omega)))⟩
 ·rintro e X ⟨⟨v, rfl⟩, xs, β, hS, hβ, hi, hl, hk⟩
  refine ⟨none, _, (by have := run_endLoop (P := P) hl (by rw [hRs]; simp); rw [show (R .ready).pending = none by rw [hR]] at this; exact this), ?_⟩
  exact hdone _ β xs _ (by omega) hS (hI β _ _ _ _ hi (grownBy_putObj' X (D + 1) _) (fun k e => by cases e; exact ⟨by omega, .inr ⟨_, hl, rfl⟩⟩)) ((World.putObj_heap_other (by omega)).trans hk)
end Go.Proofs.YtgllmhheahlpjaaGreatDoor
namespace Go.Proofs.YtgllmhheahlpjaaGreatDoor
open Go.RowKit Go.Shelf Go.Proofs.YtgllmhheahlpjaaGreatDoor.Fl
attribute [local go_sem] Oper.semAt_some
theorem cap_store {w : World} {b : Nat} {A : Cp} (h : Blk w b (cH A) 27) (Z : Cp) : Blk (sC10 w b Z) b (cH Z) 27 := by
 have v : VRow w b 10 27 (fun g => spV (A g)) := ⟨h.heap⟩
 have v0 := v.set 0 (spV (Z 0))
 have v1 := v0.set 1 (spV (Z 1))
 have v2 := v1.set 2 (spV (Z 2))
 have v3 := v2.set 3 (spV (Z 3))
 have v4 := v3.set 4 (spV (Z 4))
 have v5 := v4.set 5 (spV (Z 5))
 have v6 := v5.set 6 (spV (Z 6))
 have v7 := v6.set 7 (spV (Z 7))
 have v8 := v7.set 8 (spV (Z 8))
 have v9 := v8.set 9 (spV (Z 9))
 refine ⟨?_⟩
 show (sC10 w b Z).heap[b]? = _
 rw [v9.heap]
 rfl
theorem cap_grown (w : World) (b : Nat) (Z : Cp) : w.grownBy (sC10 w b Z) (some b) := by
 have k := kp10 (w := w) (b := b) Z
 exact ⟨k.os, k.tape, k.output, k.size, fun i hi hne => k.block i hi (fun e => hne (by rw [e]))⟩
theorem grown_belowF {X Y : World} (h : Below X.heap.size X Y) : X.grownBy Y none := ⟨h.os, h.tape, h.output, h.size, fun k hk _ => h.block k hk⟩
def mOf (w : World) (b : Nat) : Nat := match w.cell? ⟨b, 0, none⟩ with
 | some (.complex .f64 _ y) => ((List.range 100).find? (fun m : Nat => floatOfInt .f64 (m : Int) == y)).getD 0
 | _ => 0
theorem float_inj {a b : Nat} (ha : a < 1000) (hb : b < 1000) (h : floatOfInt .f64 (a : Int) = floatOfInt .f64 (b : Int)) : a = b := by
 have h1 : val (floatOfInt .f64 (a : Int)) = some (a : Int) := val_floatOfInt (by have : (2 : Nat) ^ 53 = 9007199254740992 := rfl; omega)
 have h2 : val (floatOfInt .f64 (b : Int)) = some (b : Int) := val_floatOfInt (by have : (2 : Nat) ^ 53 = 9007199254740992 := rfl; omega)
 rw [h, h2] at h1
 simp only [Option.some.injEq] at h1
 omega
theorem mOf_at {w : World} {b i m : Nat} (h : w.cell? ⟨b, 0, none⟩ = some (spV (some (i, m)))) (hm : m < 100) : mOf w b = m := by
 unfold mOf
 rw [h]
 simp only [spV]
 have : (List.range 100).find? (fun k : Nat => floatOfInt .f64 (k : Int) == floatOfInt .f64 (m : Int)) = some m := by
  rw [List.find?_range_eq_some]
  refine ⟨by simp, by simpa using hm, fun j hj => ?_⟩
  simp only [Bool.not_eq_true', beq_eq_false_iff_ne]
  exact fun e => by have := float_inj (by omega) (by omega) e; omega
 rw [this]
 rfl
section
variable (p : Option Addr) (n cap : Nat) (s : List UInt8) (w : World) (C : Nat → Cp) (F : Nat → Option Nat)
def NextK (e : Int) (q : Option (Nat × Nat)) : Prop := ∀ W, Below w.heap.size w W → Calls Tryz.prog 85 #[.slice p n cap, .string ⟨s.toArray⟩, .int .i64 e] W fun e w' => e = .returned (.tuple #[capV (capP C q), .bool q.isSome]) ∧ Below W.heap.size W w'
variable {p n cap s w C F}
theorem fnext_c (h : FindF p n cap s w C F) (k : Nat) (hk : k ≤ s.length) : NextK p n cap s w C k (nxtP F s.length k) := by
 intro w0 hB0
 have hlen := h.len
 have HF0 := Lib.hid (ffirst_c h (k : Int) k (by omega) (by omega))
 have HF1 := Lib.hid (ffirst_c h ((k : Int) + 1) (k + 1) (by omega) (by omega))
 have HB0 := Lib.hid hB0
 have hrz : VRow (w0.alloc (.cells cZ 27)) w0.heap.size 10 27 (fun _ => .complex .f64 0 0) := VRow.new w0 10 27 (fun _ => .complex .f64 0 0)
 have hb0 : Below w0.heap.size w0 (w0.alloc (.cells cZ 27)) := (Below.refl _ w0).alloc (Nat.le_refl _) _
 have HZ0 := Lib.hid (And.intro hrz hb0)
 have HH := Lib.hid h
 have HCALL := Lib.hid (HF0.out (w0.alloc (.cells cZ 27)) (hB0.trans (hb0.mono hB0.size)))
 obtain ⟨r, hr⟩ : ∃ r, r = nxtP F s.length k := ⟨_, rfl⟩
 rw [← hr]
 have HR := Lib.hid hr
 obtain ⟨q, hq⟩ : ∃ q, q = fstP F s.length k := ⟨_, rfl⟩
 rw [← hq] at HCALL
 have HQ := Lib.hid hq
 clear hrz hb0 h hB0 hr hq
 go_enter Tryz.func85, Tryz.ntmps85
 go_wp2_with fail
 refine HCALL.out.mono ?_
 rintro e w3 ⟨rfl, hB3⟩
 clear HCALL
 have l3 := hB3.size
 rw [World.size_alloc] at l3
 have hz3 := HZ0.out.1.below hB3 (by simp)
 have hb3 : Below w0.heap.size w0 w3 := HZ0.out.2.trans (hB3.mono (by simp))
 have hrow : Hid (w3.heap.size = w3.heap.size) := Lib.hid rfl
 have H3 := Lib.hid (And.intro hz3 hb3)
 clear hz3 hb3 hB3 hrow
 obtain ⟨Y, hY⟩ : ∃ Y, Y = capP C q := ⟨_, rfl⟩
 have HY := Lib.hid hY
 have hbY := capBlk w3 Y
 have HBY := Lib.hid hbY
 have HL3 : Hid (w0.heap.size < w3.heap.size) := Lib.hid (by omega)
 clear l3
 have hA4 : Below w3.heap.size w3 (w3.alloc (.cells (cH Y) 27)) := (Below.refl _ w3).alloc (Nat.le_refl _) _
 have H5 := Lib.hid (And.intro (H3.out.1.below hA4 HL3.out) (H3.out.2.trans (hA4.mono (Nat.le_of_lt HL3.out))))
 obtain ⟨k0, k1, k2, k3, k4, k5, k6, k7, k8, k9⟩ := capBlk.ten hbY
 rw [← hY]
 clear hY hbY hA4
 unfold capV
 cases hqc : q with
 | none =>
  have hr0 : r = none := by rw [HR.out]; unfold nxtP; rw [← HQ.out, hqc]
  obtain ⟨Z, hZ⟩ : ∃ Z, Z = Y := ⟨_, rfl⟩
  have HE : Hid (Z = capP C r ∧ false = r.isSome) := Lib.hid ⟨by rw [hZ, HY.out, hr0, hqc], by rw [hr0]; rfl⟩
  subst hZ
  clear hr0 hqc
  simp only [Option.isSome_none]
  obtain ⟨r0, r1, r2, r3, r4, r5, r6, r7, r8, r9, f0, f1, f2, f3, f4, f5, f6, f7, f8, f9⟩ := (H5.out.1).rf10
  obtain ⟨s0, s1, s2, s3, s4, s5, s6, s7, s8, s9⟩ := st10 (b := w0.heap.size) H5.out.1 Z
  have HKS := Lib.hid (kp10 (w := w3.alloc (.cells (cH Z) 27)) (b := w0.heap.size) Z)
  have HSS := Lib.hid (And.intro s0 (And.intro s1 (And.intro s2 (And.intro s3 (And.intro s4 (And.intro s5 (And.intro s6 (And.intro s7 (And.intro s8 s9)))))))))
  clear s0 s1 s2 s3 s4 s5 s6 s7 s8 s9
  go_wp2
  obtain ⟨s0, s1, s2, s3, s4, s5, s6, s7, s8, s9⟩ := HSS.out
  refine bodyPost_ret (v := .tuple #[.agg (cH Z), .bool false]) (by simp [results, Tryz.results85, go_sem, s0, s1, s2, s3, s4, s5, s6, s7, s8, s9]) rfl ⟨?_, ?_⟩
  ·show Ending.returned (.tuple #[capV Z, .bool false]) = Ending.returned (.tuple #[capV (capP C r), .bool r.isSome])
   rw [← HE.out.1, HE.out.2]
  ·exact H5.out.2.trans (HKS.out.below (by have := HL3.out; first | omega | (rw [World.size_alloc]; omega)) (fun i e => by subst e; exact Nat.le_refl _))
 | some x =>
  obtain ⟨i, m⟩ := x
  have hf := fst_some HH.out.bd (show fstP F s.length k = some (i, m) by rw [← HQ.out, hqc])
  have hY0 : Y 0 = some (i, m) := by rw [HY.out, hqc]; exact HH.out.at0 i m hf.2.2.2.1
  have HTO : Hid (∀ w, Calls Tryz.prog 37 #[spV (Y 0)] w fun e w' => e = .returned (.int .i64 (m : Int)) ∧ w' = w) := Lib.hid (fun w => by
   have := to_sp (Y 0) (fun x y e => by rw [hY0] at e; cases e; omega) w
   rw [show toO (Y 0) = (m : Int) by rw [hY0]; rfl] at this; exact this)
  simp only [Option.isSome_some]
  by_cases hmk : m = k
  ·subst hmk
   have hr0 : r = fstP F s.length (m + 1) := by rw [HR.out]; unfold nxtP; rw [← HQ.out, hqc]; simp
   have HCALL := Lib.hid (HF1.out (w3.alloc (.cells (cH Y) 27)) (HB0.out.trans (H5.out.2.mono HB0.out.size)))
   rw [← hr0] at HCALL
   obtain ⟨Z, hZ⟩ : ∃ Z, Z = capP C r := ⟨_, rfl⟩
   rw [← hZ] at HCALL
   have HE : Hid (Z = capP C r ∧ r.isSome = r.isSome) := Lib.hid ⟨hZ, rfl⟩
   have mm : ((m : Int) == (m : Int)) = true := by simp
   clear hr0 hqc hY0 hZ hf
   go_wp2_with fail
   refine (HTO.out _).mono ?_
   rintro e w4 ⟨rfl, rfl⟩
   go_wp2_with fail
   refine HCALL.out.mono ?_
   rintro e w5 ⟨rfl, hB5⟩
   have hl3 := HL3.out
   have l5 := hB5.size
   rw [World.size_alloc] at l5
   have H5 := Lib.hid (And.intro (H5.out.1.below hB5 (by rw [World.size_alloc]; omega)) (H5.out.2.trans (hB5.mono (by rw [World.size_alloc]; omega))))
   clear hB5
   unfold capV
   obtain ⟨r0, r1, r2, r3, r4, r5, r6, r7, r8, r9, f0, f1, f2, f3, f4, f5, f6, f7, f8, f9⟩ := (H5.out.1).rf10
   obtain ⟨s0, s1, s2, s3, s4, s5, s6, s7, s8, s9⟩ := st10 (b := w0.heap.size) H5.out.1 Z
   have HKS := Lib.hid (kp10 (w := w5) (b := w0.heap.size) Z)
   have HSS := Lib.hid (And.intro s0 (And.intro s1 (And.intro s2 (And.intro s3 (And.intro s4 (And.intro s5 (And.intro s6 (And.intro s7 (And.intro s8 s9)))))))))
   clear s0 s1 s2 s3 s4 s5 s6 s7 s8 s9
   go_wp2
   obtain ⟨s0, s1, s2, s3, s4, s5, s6, s7, s8, s9⟩ := HSS.out
   refine bodyPost_ret (v := .tuple #[.agg (cH Z), .bool r.isSome]) (by simp [results, Tryz.results85, go_sem, s0, s1, s2, s3, s4, s5, s6, s7, s8, s9]) rfl ⟨?_, ?_⟩
   ·show Ending.returned (.tuple #[capV Z, .bool r.isSome]) = Ending.returned (.tuple #[capV (capP C r), .bool r.isSome])
    rw [← HE.out.1]
   ·exact H5.out.2.trans (HKS.out.below (by have := HL3.out; first | omega | (rw [World.size_alloc]; omega)) (fun i e => by subst e; exact Nat.le_refl _))
  ·have hr0 : r = some (i, m) := by rw [HR.out]; unfold nxtP; rw [← HQ.out, hqc]; simp [hmk]
   have mm : ((m : Int) == (k : Int)) = false := by rw [beq_eq_false_iff_ne]; omega
   have mn : (m == k) = false := by rw [beq_eq_false_iff_ne]; exact hmk
   obtain ⟨Z, hZ⟩ : ∃ Z, Z = Y := ⟨_, rfl⟩
   have HE : Hid (Z = capP C r ∧ true = r.isSome) := Lib.hid ⟨by rw [hZ, HY.out, hr0, hqc], by rw [hr0]; rfl⟩
   subst hZ
   clear hr0 hqc hY0 hf
   go_wp2_with fail
   refine (HTO.out _).mono ?_
   rintro e w4 ⟨rfl, rfl⟩
   obtain ⟨r0, r1, r2, r3, r4, r5, r6, r7, r8, r9, f0, f1, f2, f3, f4, f5, f6, f7, f8, f9⟩ := (H5.out.1).rf10
   obtain ⟨s0, s1, s2, s3, s4, s5, s6, s7, s8, s9⟩ := st10 (b := w0.heap.size) H5.out.1 Z
   have HKS := Lib.hid (kp10 (w := w3.alloc (.cells (cH Z) 27)) (b := w0.heap.size) Z)
   have HSS := Lib.hid (And.intro s0 (And.intro s1 (And.intro s2 (And.intro s3 (And.intro s4 (And.intro s5 (And.intro s6 (And.intro s7 (And.intro s8 s9)))))))))
   clear s0 s1 s2 s3 s4 s5 s6 s7 s8 s9
   go_wp2
   obtain ⟨s0, s1, s2, s3, s4, s5, s6, s7, s8, s9⟩ := HSS.out
   refine bodyPost_ret (v := .tuple #[.agg (cH Z), .bool true]) (by simp [results, Tryz.results85, go_sem, s0, s1, s2, s3, s4, s5, s6, s7, s8, s9]) rfl ⟨?_, ?_⟩
   ·show Ending.returned (.tuple #[capV Z, .bool true]) = Ending.returned (.tuple #[capV (capP C r), .bool r.isSome])
    rw [← HE.out.1, HE.out.2]
   ·exact H5.out.2.trans (HKS.out.below (by have := HL3.out; first | omega | (rw [World.size_alloc]; omega)) (fun i e => by subst e; exact Nat.le_refl _))
end
end Go.Proofs.YtgllmhheahlpjaaGreatDoor
