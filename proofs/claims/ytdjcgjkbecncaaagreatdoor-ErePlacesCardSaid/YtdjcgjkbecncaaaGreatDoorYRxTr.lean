/- May. -/
import Derived.Test.YtdjcgjkbecncaaaGreatDoorYRxU
import Derived.Test.YtdjcgjkbecncaaaGreatDoorYSetA
import Derived.Test.YtdjcgjkbecncaaaGreatDoorYSetE
import Derived.ChangeKeysEq
import Derived.Deep.WholeRow
import Derived.Test.YtdjcgjkbecncaaaGreatDoorYShelf
import Derived.Lib.AppendIntMem
import Derived.Lib.ItoaLen
import Derived.OwnWalk
import Derived.Deep.AppendLies
import Derived.Lib.SmallJoins
import Derived.Lib.AtoiAllCases
import Derived.Lib.IndexMore
import Derived.Lib.IndexBytes
import Derived.Lib.FrozenHead2
import Derived.Lib.OthersKept
import Derived.BigQuiet
import Derived.Deep.RegionHeld3
import Derived.Laws.EntriesVeiled
set_option linter.unusedVariables false
set_option linter.unusedSimpArgs false
set_option maxRecDepth 100000
set_option maxHeartbeats 40000000
namespace Go.Proofs.YtdjcgjkbecncaaaGreatDoor
open Go.RowKit
theorem pIn_of_whole {xs : List Nd} {n : Nat} (hlen : xs.length = n) (hnd : ∀ (i : Nat) (x : Nd), xs[i]? = some x → isNd x = true) (hw : T.Whole (fun i => xs[i]?) n) (i : Nat) (x : Nd) (hx : xs[i]? = some x) : pIn n x := by
 have hi : i < n := by have := (List.getElem?_eq_some_iff.1 hx).1; omega
 obtain ⟨c, hc⟩ := hw.inner hi
 refine ⟨fun hk => ?_, fun hk => ?_⟩
 ·obtain ⟨q, h1, h2, h3, h4, h5, h6⟩ := (T.ends_two (l := fun i => xs[i]?) hx (hnd i x hx) hk).1 hc
  have := h3.le
  exact ⟨q - 1, i - 1, by omega, by omega, by omega, by omega⟩
 ·rcases hk with hk | hk
  ·obtain ⟨h1, h2, h3⟩ := (T.ends_times (l := fun i => xs[i]?) hx (hnd i x hx) hk).1 hc
   exact ⟨i - 1, by omega, by omega⟩
  ·obtain ⟨h1, h2, h3⟩ := (T.ends_group (l := fun i => xs[i]?) hx (hnd i x hx) hk).1 hc
   exact ⟨i - 1, by omega, by omega⟩
theorem IsPat.whole {xs : List Nd} {t : T} (h : IsPat xs t) (h1 : 1 ≤ xs.length) : T.Whole (fun i => xs[i]?) xs.length := ⟨t, h.1, h.2.1, by have := h.2.2.1; omega⟩
theorem IsPat.uniq {xs : List Nd} {t t' : T} (h : IsPat xs t) (ho : t'.Ok) (ha : T.At (fun i => xs[i]?) t' 0) (hs : t'.size = xs.length) : t = t' :=
 (T.uniq _ t t' 0 0 h.1 ho h.2.1 ha (by rw [h.2.2.1, hs])).1
theorem may_out (p : Option Addr) (n cap : Nat) (hn : n < 1 ∨ 120 < n) (hs : n < 9223372036854775807) (w : World) :
  Calls Tryz.prog 18 #[.slice p n cap] w fun e w' => e = .returned (.bool false) ∧ Below w.heap.size w w' := by
 rcases hn with hn | hn
 ·obtain rfl : n = 0 := by omega
  go_enter Tryz.func18, Tryz.ntmps18
  go_wp2
  go_ret
  exact ⟨rfl, Below.refl _ _⟩
 ·have h1 : ¬ ((n : Int) < 1) := by omega
  go_enter Tryz.func18, Tryz.ntmps18
  go_wp2
  go_ret
  exact ⟨rfl, Below.refl _ _⟩
theorem may_in (b o n cap : Nat) (xs : List Nd) (hlen : xs.length = n) (h1 : 1 ≤ n) (hn : n ≤ 120) (hfit : ∀ (i : Nat) (x : Nd), xs[i]? = some x → x.Fits) (r : Bool) (hr : r = true ↔ ∃ t, IsPat xs t) (w : World) (hx : NodesAt w b o xs) :
  Calls Tryz.prog 18 #[.slice (some ⟨b, o, none⟩) n cap] w fun e w' => e = .returned (.bool r) ∧ Below w.heap.size w w' := by
 have HR := Lib.hid hr; have HFit := Lib.hid hfit
 clear hr hfit
 have lb := hx.lt
 go_enter Tryz.func18, Tryz.ntmps18
 go_wp2
 go_loopw [15] (fun i wr => ∃ k : Nat, k ≤ n ∧ i = .int .i64 k ∧ (∀ (j : Nat) (x : Nd), j < k → xs[j]? = some x → isNd x = true) ∧ Below w.heap.size w wr) (fun i _ => n - (RowKit.intOf i).toNat)
 case atStart =>
  exact ⟨0, by omega, rfl, fun j x hj => by omega, Below.refl _ _⟩
 case round =>
  obtain ⟨k, hk, rfl, hg, hB⟩ := hrel
  have HG := Lib.hid hg
  clear hg
  by_cases hlt : k < n
  ·obtain ⟨x, hxk⟩ : ∃ x, xs[k]? = some x := ⟨xs[k]'(by omega), List.getElem?_eq_getElem (by omega)⟩
   have hfx := HFit.out k x hxk
   have gl : isNd x = true → ∀ (j : Nat) (y : Nd), j < k + 1 → xs[j]? = some y → isNd y = true := fun h j y hj hy => by
    by_cases e : j = k
    ·subst e; rw [hxk] at hy; cases hy; exact h
    ·exact HG.out j y (by omega) hy
   have gf : isNd x = false → r = false := fun h => by
    cases r
    ·rfl
    ·obtain ⟨t, ht⟩ := HR.out.1 rfl
     have := ht.2.2.2.2.1 k x hxk
     rw [h] at this; cases this
   have GL := Lib.hid gl; have GF := Lib.hid gf
   clear gl gf HG HFit
   have hw := hx.below hB hx.lt
   have d := hw.cell k x hxk
   have lB := hB.size
   obtain ⟨kd, w0, w1, w2, w3, xa, xb, m, M, xn⟩ := x
   have d0 : wr.cell? ⟨b, o + k * 10, none⟩ = some (.int .i64 kd) := d 0 _ rfl
   have d1 : wr.cell? ⟨b, o + k * 10 + 1, none⟩ = some (.int .u64 w0) := d 1 _ rfl
   have d2 : wr.cell? ⟨b, o + k * 10 + 2, none⟩ = some (.int .u64 w1) := d 2 _ rfl
   have d3 : wr.cell? ⟨b, o + k * 10 + 3, none⟩ = some (.int .u64 w2) := d 3 _ rfl
   have d4 : wr.cell? ⟨b, o + k * 10 + 4, none⟩ = some (.int .u64 w3) := d 4 _ rfl
   have d5 : wr.cell? ⟨b, o + k * 10 + 5, none⟩ = some (.int .i64 xa) := d 5 _ rfl
   have d6 : wr.cell? ⟨b, o + k * 10 + 6, none⟩ = some (.int .i64 xb) := d 6 _ rfl
   have d7 : wr.cell? ⟨b, o + k * 10 + 7, none⟩ = some (.int .i64 m) := d 7 _ rfl
   have d8 : wr.cell? ⟨b, o + k * 10 + 8, none⟩ = some (.int .i64 M) := d 8 _ rfl
   have d9 : wr.cell? ⟨b, o + k * 10 + 9, none⟩ = some (.int .i64 xn) := d 9 _ rfl
   clear d hw hxk
   have IN := Lib.hid fun w => isnode_k kd w0 w1 w2 w3 xa xb m M xn hfx w
   have bA : Below w.heap.size w (wr.alloc (.cells #[.int .i64 kd, .int .u64 w0, .int .u64 w1, .int .u64 w2, .int .u64 w3, .int .i64 xa, .int .i64 xb, .int .i64 m, .int .i64 M, .int .i64 xn] 37)) := hB.alloc (by omega) _
   cases hv : isNd ⟨kd, w0, w1, w2, w3, xa, xb, m, M, xn⟩
   ·rw [hv] at IN
    obtain rfl : r = false := GF.out hv
    clear GL GF hv
    go_wp2_with (go_at_call 33; refine (IN.out _).mono ?_; rintro e w1 ⟨rfl, hB1⟩)
    go_ret
    exact ⟨rfl, bA.trans (hB1.mono bA.size)⟩
   ·rw [hv] at IN
    have G2 := Lib.hid (GL.out hv)
    clear GL GF hv
    go_wp2_with (go_at_call 33; refine (IN.out _).mono ?_; rintro e w1 ⟨rfl, hB1⟩)
    go_roundw
    case rel => exact ⟨k + 1, by omega, by simp, G2.out, bA.trans (hB1.mono bA.size)⟩
    case measure => (simp [RowKit.intOf]) <;> omega
  ·obtain rfl : k = n := by omega
   have hnd : ∀ (i : Nat) (x : Nd), xs[i]? = some x → isNd x = true := fun i x hi => HG.out i x (by have := (List.getElem?_eq_some_iff.1 hi).1; omega) hi
   have hX := hx.below hB lb
   by_cases hW : T.Whole (fun i => xs[i]?) k
   ·have hin := pIn_of_whole hlen hnd hW
    obtain ⟨t, ht, hat, hsz⟩ := hW
    have hsz : t.size = k := by omega
    have IO := Lib.hid fun w hx => inorder_c b o k cap xs hlen h1 hn hnd true ⟨fun _ => ⟨t, ht, hat, by omega⟩, fun _ => rfl⟩ w hx
    by_cases hP : ∀ (i : Nat) (x : Nd), xs[i]? = some x → pOk xs x
    ·have IP := Lib.hid fun w hx => partsmay_c b o k cap xs hlen h1 hn hnd hin true ⟨fun _ => hP, fun _ => rfl⟩ w hx
     have IA := Lib.hid fun w hx => arenumbered_c b o k cap xs hlen h1 hn t ht hat hsz w hx
     obtain rfl : r = (num t (0, fun _ => false)).isSome := by
      rw [Bool.eq_iff_iff, HR.out]
      constructor
      ·rintro ⟨t', h'⟩
       have := h'.uniq ht hat (by omega)
       subst this
       exact h'.2.2.2.2.2.2
      ·exact fun h => ⟨t, ht, hat, by omega, by omega, hnd, hP, h⟩
     clear HR HG HFit hnd hin hP
     go_wp2_with fail
     refine (IO.out _ hX).mono ?_
     rintro e w1 ⟨rfl, hB1⟩
     have hX1 := hX.below hB1 hX.lt
     have b1 := hB.trans (hB1.mono hB.size)
     go_wp2_with fail
     refine (IP.out _ hX1).mono ?_
     rintro e w2 ⟨rfl, hB2⟩
     have hX2 := hX1.below hB2 hX1.lt
     have b2 := b1.trans (hB2.mono b1.size)
     go_wp2_with fail
     refine (IA.out _ hX2).mono ?_
     rintro e w3 ⟨rfl, hB3⟩
     have b3 := b2.trans (hB3.mono b2.size)
     go_wp2
     go_ret
     exact ⟨rfl, b3⟩
    ·have IP := Lib.hid fun w hx => partsmay_c b o k cap xs hlen h1 hn hnd hin false ⟨fun h => absurd h (by decide), fun h => absurd h hP⟩ w hx
     obtain rfl : r = false := by
      cases r
      ·rfl
      ·obtain ⟨t', h'⟩ := HR.out.1 rfl
       exact absurd h'.2.2.2.2.2.1 hP
     clear HR HG HFit hnd hin hP
     go_wp2_with fail
     refine (IO.out _ hX).mono ?_
     rintro e w1 ⟨rfl, hB1⟩
     have hX1 := hX.below hB1 hX.lt
     have b1 := hB.trans (hB1.mono hB.size)
     go_wp2_with fail
     refine (IP.out _ hX1).mono ?_
     rintro e w2 ⟨rfl, hB2⟩
     have hX2 := hX1.below hB2 hX1.lt
     have b2 := b1.trans (hB2.mono b1.size)
     go_wp2
     go_ret
     exact ⟨rfl, b2⟩
   ·have IO := Lib.hid fun w hx => inorder_c b o k cap xs hlen h1 hn hnd false ⟨fun h => absurd h (by decide), fun h => absurd h hW⟩ w hx
    obtain rfl : r = false := by
     cases r
     ·rfl
     ·obtain ⟨t', h'⟩ := HR.out.1 rfl
      exact absurd (hlen ▸ h'.whole (by omega)) hW
    clear HR HG HFit hnd
    go_wp2_with (go_at_call 34; refine (IO.out _ hX).mono ?_; rintro e w1 ⟨rfl, hB1⟩)
    go_ret
    exact ⟨rfl, hB.trans (hB1.mono hB.size)⟩
theorem may_c (p : Option Addr) (n cap : Nat) (xs : List Nd) (hlen : xs.length = n) (hs : n < 9223372036854775807) (hp : 1 ≤ n → ∃ b o, p = some ⟨b, o, none⟩) (hfit : ∀ (i : Nat) (x : Nd), xs[i]? = some x → x.Fits) (r : Bool) (hr : r = true ↔ ∃ t, IsPat xs t) (w : World)
  (hx : ∀ b o, p = some ⟨b, o, none⟩ → NodesAt w b o xs) :
  Calls Tryz.prog 18 #[.slice p n cap] w fun e w' => e = .returned (.bool r) ∧ Below w.heap.size w w' := by
 by_cases hn : 1 ≤ n ∧ n ≤ 120
 ·obtain ⟨b, o, rfl⟩ := hp hn.1
  exact may_in b o n cap xs hlen hn.1 hn.2 hfit r hr w (hx b o rfl)
 ·obtain rfl : r = false := by
   cases r
   ·rfl
   ·obtain ⟨t, ht⟩ := hr.1 rfl
    have h1 := ht.2.2.1
    have h2 := ht.2.2.2.1
    have h3 := t.size_pos
    omega
  exact may_out p n cap (by omega) hs w
end Go.Proofs.YtdjcgjkbecncaaaGreatDoor
namespace Go.Proofs.YtdjcgjkbecncaaaGreatDoor
open Go.RowKit
structure Nodes (w : World) (p : Option Addr) (n : Nat) (xs : List Nd) : Prop where
 len : xs.length = n
 small : n < 9223372036854775807
 ptr : 1 ≤ n → ∃ b o, p = some ⟨b, o, none⟩
 at' : 1 ≤ n → ∀ b o, p = some ⟨b, o, none⟩ → NodesAt w b o xs
 fits : ∀ (i : Nat) (x : Nd), xs[i]? = some x → x.Fits
theorem Nodes.below {w w' : World} {p : Option Addr} {n : Nat} {xs : List Nd} (h : Nodes w p n xs) (hB : Below w.heap.size w w') : Nodes w' p n xs :=
 ⟨h.len, h.small, h.ptr, fun h1 b o e => (h.at' h1 b o e).below hB (h.at' h1 b o e).lt, h.fits⟩
theorem may_n (p : Option Addr) (n cap : Nat) (xs : List Nd) (r : Bool) (hr : r = true ↔ ∃ t, IsPat xs t) (w : World) (h : Nodes w p n xs) :
  Calls Tryz.prog 18 #[.slice p n cap] w fun e w' => e = .returned (.bool r) ∧ Below w.heap.size w w' := by
 by_cases hn : 1 ≤ n
 ·obtain ⟨b, o, rfl⟩ := h.ptr hn
  exact may_c _ n cap xs h.len h.small h.ptr h.fits r hr w fun b' o' e => h.at' hn b' o' e
 ·obtain rfl : r = false := by
   cases r
   ·rfl
   ·obtain ⟨t, ht⟩ := hr.1 rfl
    have h1 := ht.2.2.1
    have h3 := t.size_pos
    have := h.len
    omega
  exact may_out p n cap (by omega) h.small w
def gcnt (xs : List Nd) : Nat → Nat
 | 0 => 0
 | k + 1 => gcnt xs k + (match xs[k]? with | some x => if x.kind = 7 then 1 else 0 | none => 0)
theorem gcnt_le (xs : List Nd) : ∀ k, gcnt xs k ≤ k
 | 0 => Nat.le_refl _
 | k + 1 => by
  have := gcnt_le xs k
  simp only [gcnt]
  split
  ·split <;> omega
  ·omega
theorem groups_in (b o n cap : Nat) (xs : List Nd) (hlen : xs.length = n) (h1 : 1 ≤ n) (hn : n ≤ 120) (hfit : ∀ (i : Nat) (x : Nd), xs[i]? = some x → x.Fits) (hp : ∃ t, IsPat xs t) (w : World) (hx : NodesAt w b o xs) :
  Calls Tryz.prog 22 #[.slice (some ⟨b, o, none⟩) n cap] w fun e w' => e = .returned (.int .i64 (gcnt xs n)) ∧ Below w.heap.size w w' := by
 have HM := Lib.hid fun w hx => may_in b o n cap xs hlen h1 hn hfit true ⟨fun _ => hp, fun _ => rfl⟩ w hx
 clear hp hfit
 have lb := hx.lt
 go_enter Tryz.func22, Tryz.ntmps22
 go_wp2_with (go_at_call 18; refine (HM.out _ hx).mono ?_; rintro e w1 ⟨rfl, hB1⟩)
 go_loopw [3, 11] (fun g i wr => ∃ k : Nat, k ≤ n ∧ i = .int .i64 k ∧ g = .int .i64 (gcnt xs k) ∧ Below w.heap.size w wr) (fun _ i _ => n - (RowKit.intOf i).toNat)
 case atStart => exact ⟨0, by omega, rfl, rfl, hB1⟩
 case round =>
  obtain ⟨k, hk, rfl, rfl, hB⟩ := hrel
  by_cases hlt : k < n
  ·obtain ⟨x, hxk⟩ : ∃ x, xs[k]? = some x := ⟨xs[k]'(by omega), List.getElem?_eq_getElem (by omega)⟩
   have hw := hx.below hB hx.lt
   have d := hw.cell k x hxk
   have lB := hB.size
   have hle := gcnt_le xs k
   have hs : gcnt xs (k + 1) = gcnt xs k + (if x.kind = 7 then 1 else 0) := by simp only [gcnt, hxk]
   obtain ⟨kd, w0, w1', w2, w3, xa, xb, m, M, xn⟩ := x
   have d0 : wr.cell? ⟨b, o + k * 10, none⟩ = some (.int .i64 kd) := d 0 _ rfl
   have d1 : wr.cell? ⟨b, o + k * 10 + 1, none⟩ = some (.int .u64 w0) := d 1 _ rfl
   have d2 : wr.cell? ⟨b, o + k * 10 + 2, none⟩ = some (.int .u64 w1') := d 2 _ rfl
   have d3 : wr.cell? ⟨b, o + k * 10 + 3, none⟩ = some (.int .u64 w2) := d 3 _ rfl
   have d4 : wr.cell? ⟨b, o + k * 10 + 4, none⟩ = some (.int .u64 w3) := d 4 _ rfl
   have d5 : wr.cell? ⟨b, o + k * 10 + 5, none⟩ = some (.int .i64 xa) := d 5 _ rfl
   have d6 : wr.cell? ⟨b, o + k * 10 + 6, none⟩ = some (.int .i64 xb) := d 6 _ rfl
   have d7 : wr.cell? ⟨b, o + k * 10 + 7, none⟩ = some (.int .i64 m) := d 7 _ rfl
   have d8 : wr.cell? ⟨b, o + k * 10 + 8, none⟩ = some (.int .i64 M) := d 8 _ rfl
   have d9 : wr.cell? ⟨b, o + k * 10 + 9, none⟩ = some (.int .i64 xn) := d 9 _ rfl
   clear d hw hxk
   simp only at hs
   obtain ⟨gk, hgk⟩ : ∃ g, g = gcnt xs k := ⟨_, rfl⟩
   rw [← hgk] at hs hle ⊢
   clear hgk
   by_cases h7 : kd = 7
   ·subst h7
    rw [if_pos rfl] at hs
    have HS := Lib.hid hs
    clear hs
    go_wp2
    go_roundw
    case rel => exact ⟨k + 1, by omega, by simp, by rw [HS.out]; simp, hB.alloc (by omega) _⟩
    case measure => (simp [RowKit.intOf]) <;> omega
   ·have z7 : (kd == 7) = false := by rw [beq_eq_false_iff_ne]; exact h7
    rw [if_neg h7] at hs
    have HS := Lib.hid hs
    clear hs
    go_wp2
    go_roundw
    case rel => exact ⟨k + 1, by omega, by simp, by rw [HS.out]; simp, hB.alloc (by omega) _⟩
    case measure => (simp [RowKit.intOf]) <;> omega
  ·obtain rfl : k = n := by omega
   go_wp2
   go_ret
   exact ⟨rfl, hB⟩
def anyRef (xs : List Nd) (k : Nat) : Prop := ∃ (j : Nat) (x : Nd), j < k ∧ xs[j]? = some x ∧ x.kind = 8
theorem refs1_c (kd : Int) (w0 w1 w2 w3 : Nat) (xa xb m M xn : Int) (w : World) :
  Calls Tryz.prog 47 #[.agg #[.int .i64 kd, .int .u64 w0, .int .u64 w1, .int .u64 w2, .int .u64 w3, .int .i64 xa, .int .i64 xb, .int .i64 m, .int .i64 M, .int .i64 xn]] w fun e w' => e = .returned (.bool (kd == 8)) ∧ Below w.heap.size w w' := by
 go_enter Tryz.func47, Tryz.ntmps47
 go_wp2
 go_ret
 exact ⟨rfl, (Below.refl _ w).alloc (Nat.le_refl _) _⟩
theorem indexref_c (b o n cap : Nat) (xs : List Nd) (hlen : xs.length = n) (h1 : 1 ≤ n) (hn : n ≤ 120) (w : World) (hx : NodesAt w b o xs) :
  Calls Tryz.prog 84 #[.slice (some ⟨b, o, none⟩) n cap, .func (.func 47) #[] #[]] w fun e w' => (∃ r : Int, e = .returned (.int .i64 r) ∧ -1 ≤ r ∧ r ≤ 120 ∧ (0 ≤ r ↔ anyRef xs n)) ∧ Below w.heap.size w w' := by
 have lb := hx.lt
 go_enter Tryz.func84, Tryz.ntmps84
 go_wp2
 go_loopw [8] (fun i wr => ∃ k : Nat, k ≤ n ∧ i = .int .i64 k ∧ ¬ anyRef xs k ∧ Below w.heap.size w wr) (fun i _ => n - (RowKit.intOf i).toNat)
 case atStart => exact ⟨0, by omega, rfl, fun ⟨j, x, hj, _⟩ => by omega, Below.refl _ _⟩
 case round =>
  obtain ⟨k, hk, rfl, hg, hB⟩ := hrel
  have HG := Lib.hid hg
  clear hg
  by_cases hlt : k < n
  ·obtain ⟨x, hxk⟩ : ∃ x, xs[k]? = some x := ⟨xs[k]'(by omega), List.getElem?_eq_getElem (by omega)⟩
   have hw := hx.below hB hx.lt
   have d := hw.cell k x hxk
   have lB := hB.size
   have HA := Lib.hid hxk
   obtain ⟨kd, w0, w1, w2, w3, xa, xb, m, M, xn⟩ := x
   have d0 : wr.cell? ⟨b, o + k * 10, none⟩ = some (.int .i64 kd) := d 0 _ rfl
   have d1 : wr.cell? ⟨b, o + k * 10 + 1, none⟩ = some (.int .u64 w0) := d 1 _ rfl
   have d2 : wr.cell? ⟨b, o + k * 10 + 2, none⟩ = some (.int .u64 w1) := d 2 _ rfl
   have d3 : wr.cell? ⟨b, o + k * 10 + 3, none⟩ = some (.int .u64 w2) := d 3 _ rfl
   have d4 : wr.cell? ⟨b, o + k * 10 + 4, none⟩ = some (.int .u64 w3) := d 4 _ rfl
   have d5 : wr.cell? ⟨b, o + k * 10 + 5, none⟩ = some (.int .i64 xa) := d 5 _ rfl
   have d6 : wr.cell? ⟨b, o + k * 10 + 6, none⟩ = some (.int .i64 xb) := d 6 _ rfl
   have d7 : wr.cell? ⟨b, o + k * 10 + 7, none⟩ = some (.int .i64 m) := d 7 _ rfl
   have d8 : wr.cell? ⟨b, o + k * 10 + 8, none⟩ = some (.int .i64 M) := d 8 _ rfl
   have d9 : wr.cell? ⟨b, o + k * 10 + 9, none⟩ = some (.int .i64 xn) := d 9 _ rfl
   clear d hw hxk
   have IN := Lib.hid fun w => refs1_c kd w0 w1 w2 w3 xa xb m M xn w
   by_cases h8 : kd = 8
   ·subst h8
    have HY : anyRef xs n := ⟨k, _, hlt, HA.out, rfl⟩
    have HY := Lib.hid HY
    clear HA HG
    go_wp2_with (go_at_call 47; refine (IN.out _).mono ?_; rintro e w1 ⟨rfl, hB1⟩)
    go_ret
    exact ⟨⟨k, rfl, by omega, by omega, fun _ => HY.out, fun _ => by omega⟩, hB.trans (hB1.mono hB.size)⟩
   ·have z8 : (kd == 8) = false := by rw [beq_eq_false_iff_ne]; exact h8
    rw [z8] at IN
    have HY : ¬ anyRef xs (k + 1) := fun ⟨j, x, hj, hx, h⟩ => by
     by_cases e : j = k
     ·subst e; rw [HA.out] at hx; cases hx; exact h8 h
     ·exact HG.out ⟨j, x, by omega, hx, h⟩
    have HY := Lib.hid HY
    clear HA HG
    go_wp2_with (go_at_call 47; refine (IN.out _).mono ?_; rintro e w1 ⟨rfl, hB1⟩)
    go_roundw
    case rel => exact ⟨k + 1, by omega, by simp, HY.out, hB.trans (hB1.mono hB.size)⟩
    case measure => (simp [RowKit.intOf]) <;> omega
  ·obtain rfl : k = n := by omega
   go_wp2
   go_ret
   exact ⟨⟨-1, rfl, by omega, by omega, fun h => by omega, fun h => absurd h HG.out⟩, hB⟩
end Go.Proofs.YtdjcgjkbecncaaaGreatDoor
namespace Go.Proofs.YtdjcgjkbecncaaaGreatDoor
open Go.RowKit
theorem containsref_c (b o n cap : Nat) (xs : List Nd) (hlen : xs.length = n) (h1 : 1 ≤ n) (hn : n ≤ 120) (r : Bool) (hr : r = true ↔ anyRef xs n) (w : World) (hx : NodesAt w b o xs) :
  Calls Tryz.prog 46 #[.slice (some ⟨b, o, none⟩) n cap, .func (.func 47) #[] #[]] w fun e w' => e = .returned (.bool r) ∧ Below w.heap.size w w' := by
 have IX := Lib.hid (indexref_c b o n cap xs hlen h1 hn w hx)
 have HR := Lib.hid hr
 clear hr
 go_enter Tryz.func46, Tryz.ntmps46
 go_wp2_with fail
 refine IX.out.mono ?_
 rintro e w1 ⟨⟨z, rfl, hz1, hz2, hz⟩, hB⟩
 by_cases h0 : 0 ≤ z
 ·obtain rfl : r = true := HR.out.2 (hz.1 h0)
  have hd : decide (0 ≤ z) = true := by simpa using h0
  clear hz HR
  go_wp2
  go_ret
  exact ⟨rfl, hB⟩
 ·obtain rfl : r = false := by
   cases r
   ·rfl
   ·exact absurd (hz.2 (HR.out.1 rfl)) h0
  have hd : decide (0 ≤ z) = false := by simpa using h0
  clear hz HR
  go_wp2
  go_ret
  exact ⟨rfl, hB⟩
theorem refs_in (b o n cap : Nat) (xs : List Nd) (hlen : xs.length = n) (h1 : 1 ≤ n) (hn : n ≤ 120) (hfit : ∀ (i : Nat) (x : Nd), xs[i]? = some x → x.Fits) (hp : ∃ t, IsPat xs t) (r : Bool) (hr : r = true ↔ anyRef xs n) (w : World) (hx : NodesAt w b o xs) :
  Calls Tryz.prog 23 #[.slice (some ⟨b, o, none⟩) n cap] w fun e w' => e = .returned (.bool r) ∧ Below w.heap.size w w' := by
 have HM := Lib.hid fun w hx => may_in b o n cap xs hlen h1 hn hfit true ⟨fun _ => hp, fun _ => rfl⟩ w hx
 have HC := Lib.hid fun w hx => containsref_c b o n cap xs hlen h1 hn r hr w hx
 clear hp hfit hr
 go_enter Tryz.func23, Tryz.ntmps23
 go_wp2_with fail
 refine (HM.out _ hx).mono ?_
 rintro e w1 ⟨rfl, hB1⟩
 have hx1 := hx.below hB1 hx.lt
 go_wp2_with fail
 refine (HC.out _ hx1).mono ?_
 rintro e w2 ⟨rfl, hB2⟩
 go_wp2
 go_ret
 exact ⟨rfl, hB1.trans (hB2.mono hB1.size)⟩
end Go.Proofs.YtdjcgjkbecncaaaGreatDoor
namespace Go.Proofs.YtdjcgjkbecncaaaGreatDoor
open Go.RowKit
theorem infoNd : (Tryz.prog.info? 37).map (fun i => (i.zero, i.size, i.bytes)) = some (some (.agg #[.int .i64 0, .int .u64 0, .int .u64 0, .int .u64 0, .int .u64 0, .int .i64 0, .int .i64 0, .int .i64 0, .int .i64 0, .int .i64 0]), 10, 80) := by kernel_rfl
def flat (xs : List Nd) : List Value := xs.flatMap fun x => x.cells.toList
theorem flat_at : ∀ (xs : List Nd) (j : Nat), j < xs.length * 10 → ∃ (i r : Nat) (x : Nd), xs[i]? = some x ∧ r < 10 ∧ j = i * 10 + r ∧ (flat xs)[j]? = x.cells[r]?
 | [], j, h => by simp at h
 | x :: xs, j, h => by
  have hl : x.cells.toList.length = 10 := rfl
  by_cases hj : j < 10
  ·refine ⟨0, j, x, rfl, hj, by omega, ?_⟩
   simp only [flat, List.flatMap_cons]
   rw [List.getElem?_append_left (by omega)]
   simp
  ·obtain ⟨i, r, y, h1, h2, h3, h4⟩ := flat_at xs (j - 10) (by simp only [List.length_cons] at h; omega)
   refine ⟨i + 1, r, y, h1, h2, by omega, ?_⟩
   simp only [flat, List.flatMap_cons] at h4 ⊢
   rw [List.getElem?_append_right (by omega), hl]
   exact h4
theorem flat_get (xs : List Nd) (i r : Nat) (x : Nd) (hx : xs[i]? = some x) (hr : r < 10) : (flat xs)[i * 10 + r]? = x.cells[r]? := by
 have hi : i < xs.length := (List.getElem?_eq_some_iff.1 hx).1
 obtain ⟨i', r', y, h1, h2, h3, h4⟩ := flat_at xs (i * 10 + r) (by omega)
 obtain rfl : i' = i := by omega
 obtain rfl : r' = r := by omega
 rw [hx] at h1
 cases h1
 exact h4
end Go.Proofs.YtdjcgjkbecncaaaGreatDoor
namespace Go.Proofs.YtdjcgjkbecncaaaGreatDoor
open Go.RowKit
def wk (f : Nat → Bool) (m k : Nat) : Nat := wd f m / 2 ^ (min 64 (k - 64 * m))
end Go.Proofs.YtdjcgjkbecncaaaGreatDoor
namespace Go.Proofs.YtdjcgjkbecncaaaGreatDoor
open Go.RowKit
def part (f : Nat → Bool) (k j : Nat) : Bool := if (65 ≤ j ∧ j < k) ∨ (97 ≤ j ∧ j < k + 32) then foldF f j else f j
end Go.Proofs.YtdjcgjkbecncaaaGreatDoor
namespace Go.Proofs.YtdjcgjkbecncaaaGreatDoor
open Go.RowKit Go.Lib
structure Fit3 (w : World) : Prop where
 fit : Fit w
 pow : Lib.TabIs Tryz.prog w "internal/strconv.uint64pow10" .u64 Lib.pow10Tab
theorem Fit3.below {w w' : World} (h : Fit3 w) (hB : Below w.heap.size w w') : Fit3 w' := ⟨h.fit.below hB, Lib.tabBelow_of_tabIs h.pow w' hB⟩
theorem itoa_c (n : Int) (h0 : -9223372036854775808 ≤ n) (h1 : n ≤ 9223372036854775807) (w : World) (h : Fit3 w) :
  Calls Tryz.prog 79 #[.int .i64 n] w fun e w' => e = .returned (.string ⟨(itoa n).toArray⟩) ∧ Below w.heap.size w w' := by
 refine (Tryz.strconv_Itoa n h0 h1 w h.pow).mono ?_
 rintro e w' ⟨rfl, k, os, rfl⟩
 exact ⟨rfl, Lib.below_grow _ _ (Nat.le_refl _) k os⟩
end Go.Proofs.YtdjcgjkbecncaaaGreatDoor
namespace Go.Proofs.YtdjcgjkbecncaaaGreatDoor
open Go.RowKit Go.Lib
def MaxLen (w : World) : Prop := ∃ m, w.cell? ⟨1, 0, none⟩ = some (.int .i64 m)
end Go.Proofs.YtdjcgjkbecncaaaGreatDoor
namespace Go.Proofs.YtdjcgjkbecncaaaGreatDoor
open Go.RowKit Go.Lib
structure Vars (w : World) : Prop where
 max : MaxLen w
 syn : ∃ tp p, w.var? Tryz.prog "strconv.ErrSyntax" = some #[.iface tp p]
 rng : ∃ tp p, w.var? Tryz.prog "strconv.ErrRange" = some #[.iface tp p]
theorem World.lt_of_cell {w : World} {a : Addr} {v : Value} (h : w.cell? a = some v) : a.block < w.heap.size := by
 rcases Nat.lt_or_ge a.block w.heap.size with q | q
 ·exact q
 ·unfold World.cell? at h
  rw [Array.getElem?_eq_none q] at h
  simp at h
theorem synNamed : ∃ g, Tryz.prog.globalNamed "strconv.ErrSyntax" = some g := Option.isSome_iff_exists.1 (by kernel_rfl)
theorem rngNamed : ∃ g, Tryz.prog.globalNamed "strconv.ErrRange" = some g := Option.isSome_iff_exists.1 (by kernel_rfl)
theorem MaxLen.below {w w' : World} (h : MaxLen w) (hB : Below w.heap.size w w') : MaxLen w' := by
 obtain ⟨m, h⟩ := h
 exact ⟨m, (hB.cell (World.lt_of_cell h)).trans h⟩
theorem Vars.below {w w' : World} (h : Vars w) (hB : Below w.heap.size w w') : Vars w' := by
 obtain ⟨h1, ⟨t, p, h2⟩, ⟨t', p', h3⟩⟩ := h
 obtain ⟨g, hg⟩ := synNamed
 obtain ⟨g', hg'⟩ := rngNamed
 exact ⟨h1.below hB, ⟨t, p, Joins.var_stays hg h2 hB (Nat.le_refl _)⟩, ⟨t', p', Joins.var_stays hg' h3 hB (Nat.le_refl _)⟩⟩
end Go.Proofs.YtdjcgjkbecncaaaGreatDoor
namespace Go.Proofs.YtdjcgjkbecncaaaGreatDoor
open Go.RowKit Go.Lib
def dig3 (n : Nat) : List UInt8 := if n < 10 then [UInt8.ofNat (48 + n)] else if n < 100 then [UInt8.ofNat (48 + n / 10), UInt8.ofNat (48 + n % 10)] else [UInt8.ofNat (48 + n / 100), UInt8.ofNat (48 + n / 10 % 10), UInt8.ofNat (48 + n % 10)]
theorem dec3 (n : Nat) (h : n < 1000) : decDigits n = dig3 n := by
 unfold dig3
 by_cases h1 : n < 10
 ·rw [if_pos h1, decDigits_one h1]
 ·rw [if_neg h1]
  by_cases h2 : n < 100
  ·rw [if_pos h2, decDigits_two h1 h2]
  ·rw [if_neg h2, decDigits, dif_neg h1, decDigits_two (by omega) (by omega), Nat.div_div_eq_div_mul]
   simp
end Go.Proofs.YtdjcgjkbecncaaaGreatDoor
namespace Go.Proofs.YtdjcgjkbecncaaaGreatDoor
open Go.RowKit Go.Lib
def T.nodes : T → Nat → List Nd
 | .leaf x, _ => [x]
 | .two k a b, o => a.nodes o ++ (b.nodes (o + a.size) ++ [T.root (.two k a b) o])
 | .times m M t, o => t.nodes o ++ [T.root (.times m M t) o]
 | .group n t, o => t.nodes o ++ [T.root (.group n t) o]
theorem T.nodes_len : ∀ (t : T) (o : Nat), (t.nodes o).length = t.size
 | .leaf x, o => rfl
 | .two k a b, o => by simp [T.nodes, T.size, T.nodes_len a, T.nodes_len b]; omega
 | .times m M t, o => by simp [T.nodes, T.size, T.nodes_len t]
 | .group n t, o => by simp [T.nodes, T.size, T.nodes_len t]
theorem T.At.nodes {l : Nat → Option Nd} : ∀ (t : T) (o : Nat), T.At l t o → ∀ i, i < t.size → l (o + i) = (t.nodes o)[i]?
 | .leaf x, o, h, i, hi => by
  simp only [T.size] at hi
  obtain rfl : i = 0 := by omega
  exact h
 | .two k a b, o, ⟨h1, h2, h3⟩, i, hi => by
  simp only [T.size] at hi
  simp only [T.nodes]
  rcases Nat.lt_or_ge i a.size with c | c
  ·rw [List.getElem?_append_left (by rw [T.nodes_len]; exact c)]
   exact T.At.nodes a o h1 i c
  ·rw [List.getElem?_append_right (by rw [T.nodes_len]; exact c), T.nodes_len]
   rcases Nat.lt_or_ge (i - a.size) b.size with d | d
   ·rw [List.getElem?_append_left (by rw [T.nodes_len]; exact d), ← T.At.nodes b _ h2 _ d]
    congr 1; omega
   ·rw [List.getElem?_append_right (by rw [T.nodes_len]; exact d), T.nodes_len]
    have e : i - a.size - b.size = 0 := by omega
    rw [e, show o + i = o + a.size + b.size by omega, h3]
    rfl
 | .times m M t, o, ⟨h1, h3⟩, i, hi => by
  simp only [T.size] at hi
  simp only [T.nodes]
  rcases Nat.lt_or_ge i t.size with c | c
  ·rw [List.getElem?_append_left (by rw [T.nodes_len]; exact c)]
   exact T.At.nodes t o h1 i c
  ·rw [List.getElem?_append_right (by rw [T.nodes_len]; exact c), T.nodes_len]
   have e : i - t.size = 0 := by omega
   rw [e, show o + i = o + t.size by omega, h3]
   rfl
 | .group n t, o, ⟨h1, h3⟩, i, hi => by
  simp only [T.size] at hi
  simp only [T.nodes]
  rcases Nat.lt_or_ge i t.size with c | c
  ·rw [List.getElem?_append_left (by rw [T.nodes_len]; exact c)]
   exact T.At.nodes t o h1 i c
  ·rw [List.getElem?_append_right (by rw [T.nodes_len]; exact c), T.nodes_len]
   have e : i - t.size = 0 := by omega
   rw [e, show o + i = o + t.size by omega, h3]
   rfl
theorem IsPat.nodes {xs : List Nd} {t : T} (h : IsPat xs t) : xs = t.nodes 0 := by
 obtain ⟨_, ha, hs, _⟩ := h
 apply List.ext_getElem?
 intro i
 rcases Nat.lt_or_ge i t.size with c | c
 ·have := T.At.nodes t 0 ha i c
  rw [Nat.zero_add] at this
  exact this
 ·rw [List.getElem?_eq_none (by omega), List.getElem?_eq_none (by rw [T.nodes_len]; exact c)]
end Go.Proofs.YtdjcgjkbecncaaaGreatDoor
namespace Go.Proofs.YtdjcgjkbecncaaaGreatDoor
open Go.RowKit
theorem sizeSB : (Tryz.prog.info? 82).map (fun i => i.size) = some 2 := by kernel_rfl
theorem check_fresh (b : Nat) (w : World) (h0 : w.cell? ⟨b, 0, none⟩ = some (.pointer none)) (hsh : w.shape? b = some (82, 2)) (hfz : w.frozen? ⟨b, 0, none⟩ = false) :
  Calls Tryz.prog 82 #[.pointer (some ⟨b, 0, none⟩)] w fun e w' => e = .returned (.tuple #[]) ∧ w' = w.setCell ⟨b, 0, none⟩ (.pointer (some ⟨b, 0, none⟩)) := by
 obtain ⟨j, hj, hjs⟩ := Option.map_eq_some_iff.1 sizeSB
 go_enter Tryz.func82, Tryz.ntmps82
 go_wp2
 rw [Lib.run_to_unsafe w ⟨b, 0, none⟩ Tryz.underlying79 Tryz.underlying143 hj (by rw [hjs]; decide) hsh (Nat.zero_lt_succ 1)]
 simp only [Result.andThen]
 rw [Oper.upon_value]
 go_wp2
 rw [run_callFunc_extern Tryz.func115 (by kernel_rfl) (by kernel_rfl) (by kernel_rfl) (e := Extern.AbiNoEscape.same) (by kernel_rfl)]
 rw [Lib.run_noEscape]
 simp only [Result.andThen]
 rw [Oper.upon_value]
 go_wp2
 rw [Lib.run_from_unsafe w ⟨b, 0, none⟩ Tryz.underlying143 Tryz.underlying79 hj hsh (by kernel_rfl)]
 simp only [Result.andThen]
 rw [Oper.upon_value]
 go_wp2
 go_end0
 exact ⟨rfl, rfl⟩
theorem check_used (b : Nat) (w : World) (h0 : w.cell? ⟨b, 0, none⟩ = some (.pointer (some ⟨b, 0, none⟩))) :
  Calls Tryz.prog 82 #[.pointer (some ⟨b, 0, none⟩)] w fun e w' => e = .returned (.tuple #[]) ∧ w' = w := by
 obtain ⟨j, hj, _⟩ := Option.map_eq_some_iff.1 sizeSB
 go_enter Tryz.func82, Tryz.ntmps82
 go_wp2
 rw [Lib.run_neq_ptr_same w _ Tryz.underlying79 hj]
 go_wp2
 go_end0
 exact ⟨rfl, rfl⟩
def SB (B b : Nat) (bs : List Value) (w : World) : Prop := Lib.IsBuilderF 82 5 B b bs w
def SK (B b : Nat) (w w' : World) : Prop := Below B w w' ∧ Lib.OthersKept 5 (some b) w w'
theorem check_c (B b : Nat) (bs : List Value) (w : World) (h : SB B b bs w) :
  Calls Tryz.prog 82 #[.pointer (some ⟨b, 0, none⟩)] w fun e w' => e = .returned (.tuple #[]) ∧ Lib.BuilderAtF 82 5 B b (.pointer (some ⟨b, 0, none⟩)) bs w' ∧ SK B b w w' := by
 rcases h with h | h
 ·refine (check_fresh b w h.cell0 h.shape h.frozen0).mono ?_
  rintro e w' ⟨rfl, rfl⟩
  exact ⟨rfl, h.used _, (Below.refl B w).setCell (p := ⟨b, 0, none⟩) h.1 _, (Lib.OthersKept.refl _ _ w).setCell ⟨b, 0, none⟩ rfl _⟩
 ·refine (check_used b w h.cell0).mono ?_
  rintro e w' ⟨rfl, rfl⟩
  exact ⟨rfl, h, Below.refl B _, Lib.OthersKept.refl _ _ _⟩
theorem wstr_c (B b : Nat) (bs : List Value) (s : ByteArray) (w : World) (h : SB B b bs w) (hlen : bs.length + s.size ≤ 140737488355328) (hBw : B ≤ w.heap.size) :
  Calls Tryz.prog 42 #[.pointer (some ⟨b, 0, none⟩), .string s] w fun e w' => e = .returned (.tuple #[.int .i64 s.size, .nilIface]) ∧ SB B b (bs ++ Lib.strCells s) w' ∧ SK B b w w' := by
 obtain ⟨i0, hi, hz0, hz1, hz2⟩ := info_parts infoU8
 have CK := Lib.hid (check_c B b bs w h)
 go_enter Tryz.func42, Tryz.ntmps42
 go_wp2_with fail
 refine CK.out.mono ?_
 rintro e w1 ⟨rfl, h1, hb1, hk1⟩
 obtain ⟨hB, v, hbk, hown, hne⟩ := h1
 have c1 : w1.cell? ⟨b, 1, none⟩ = some v := by rw [Lib.cell_of_heap hbk]; rfl
 go_wp2_with (at_builtin; refine Lib.wpList_append_own_stringF _ rfl _ _ 80 9 rfl B 5 i0 Tryz.underlying80 Tryz.underlying9 hi hz0 hz1 hz2 _ _ _ rfl hown s rfl ?c3 ?c4 ?c5 ?_)
 case c3 => unfold maxLen; omega
 case c4 => omega
 case c5 => have := hb1.size; omega
 intro v' w2 hown' hgrow _
 have hlt : b < w1.heap.size := (Array.getElem?_eq_some_iff.1 hbk).1
 have hb2 : w2.heap[b]? = some (.cells #[.pointer (some ⟨b, 0, none⟩), v] 82 (0, 0)) := by
  rw [hgrow.block b hlt (fun e => hne e.symm)]
  exact hbk
 have d1 : w2.cell? ⟨b, 1, none⟩ = some v := by rw [Lib.cell_of_heap hb2]; rfl
 have f1 : w2.frozen? ⟨b, 1, none⟩ = false := Lib.frozen_of_heap hb2 1
 obtain ⟨ao, n', cap, rfl⟩ : ∃ ao n' cap, v' = .slice ao n' cap := by
  rcases hown'.2 with ⟨hv, _⟩ | ⟨g, cap, cur, fz, hv, _⟩
  ·exact ⟨_, _, _, hv⟩
  ·exact ⟨_, _, _, hv⟩
 go_wp2
 go_ret2
 refine ⟨rfl, .inr ?_, ?_, (hk1.grown hgrow (Lib.ownsRowF_kind hown)).setCell ⟨b, 1, none⟩ rfl _⟩
 ·exact Lib.BuilderAtF.put (T := 82) (e := 5) hB hb2 (bs' := bs ++ Lib.strCells s) (by simpa [Lib.strCells_length] using hown') (by decide)
 ·exact (hb1.grown hgrow (by have := hb1.size; omega) (fun k hk => (hown.lt k hk).1)).setCell (p := ⟨b, 1, none⟩) hB _
end Go.Proofs.YtdjcgjkbecncaaaGreatDoor
namespace Go.Proofs.YtdjcgjkbecncaaaGreatDoor
open Go.RowKit
theorem BuilderAtF.below {T e : TypeId} {B b : Nat} {p : Value} {bs : List Value} {w w' : World} (h : Lib.BuilderAtF T e B b p bs w) (hB : Below w.heap.size w w') : Lib.BuilderAtF T e B b p bs w' := by
 obtain ⟨h1, v, h2, h3, h4⟩ := h
 refine ⟨h1, v, (hB.block b (Array.getElem?_eq_some_iff.1 h2).1).trans h2, ⟨h3.1, ?_⟩, h4⟩
 rcases h3.2 with h | ⟨g, cap, cur, fz, e1, e2, e3, r⟩
 ·exact .inl h
 ·exact .inr ⟨g, cap, cur, fz, e1, e2, (hB.block g (Array.getElem?_eq_some_iff.1 e3).1).trans e3, r⟩
theorem SB.below {B b : Nat} {bs : List Value} {w w' : World} (h : SB B b bs w) (hB : Below w.heap.size w w') : SB B b bs w' := h.imp (fun x => BuilderAtF.below x hB) (fun x => BuilderAtF.below x hB)
theorem SK.of {B b : Nat} {w w' : World} (hB : Below w.heap.size w w') (h : B ≤ w.heap.size) : SK B b w w' :=
 ⟨hB.mono h, fun k o hk _ _ => (hB.block k (Array.getElem?_eq_some_iff.1 hk).1).trans hk⟩
theorem SK.trans {B b : Nat} {w w' w2 : World} (h : SK B b w w') (h' : SK B b w' w2) : SK B b w w2 := ⟨h.1.trans h'.1, h.2.trans h'.2⟩
section
variable {L C b o n cap : Nat} {xs : List Nd} {bs bs' : List Value} {w w' : World}
end
end Go.Proofs.YtdjcgjkbecncaaaGreatDoor
namespace Go.Proofs.YtdjcgjkbecncaaaGreatDoor
open Go.RowKit
theorem cells_app (a b : List UInt8) : Lib.byteCells (a ++ b) = Lib.byteCells a ++ Lib.byteCells b := List.map_append ..
theorem cells_len (a : List UInt8) : (Lib.byteCells a).length = a.length := by simp [Lib.byteCells]
end Go.Proofs.YtdjcgjkbecncaaaGreatDoor
namespace Go.Proofs.YtdjcgjkbecncaaaGreatDoor
open Go.RowKit Go.Lib
structure Fit4 (w : World) : Prop where
 f : Fit3 w
 v : Vars w
theorem Fit4.below {w w' : World} (h : Fit4 w) (hB : Below w.heap.size w w') : Fit4 w' := ⟨h.f.below hB, h.v.below hB⟩
end Go.Proofs.YtdjcgjkbecncaaaGreatDoor
