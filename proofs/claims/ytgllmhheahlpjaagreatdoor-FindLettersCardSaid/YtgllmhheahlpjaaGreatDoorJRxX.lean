/- May. -/
import Derived.Test.YtgllmhheahlpjaaGreatDoorJRxU
import Derived.Test.YtgllmhheahlpjaaGreatDoorJRxA
import Derived.Deep.WholeRow
import Derived.ChangeKeysEq
import Derived.OwnWalk
import Derived.Deep.AppendLies
set_option linter.unusedVariables false
set_option linter.unusedSimpArgs false
set_option maxRecDepth 100000
set_option maxHeartbeats 40000000
namespace Go.Proofs.YtgllmhheahlpjaaGreatDoor
open Go.RowKit
theorem pIn_of_whole {xs : List Nd} {n : Nat} (hlen : xs.length = n) (hnd : ∀ (i : Nat) (x : Nd), xs[i]? = some x → isNd x = true) (hw : T.Whole (fun i => xs[i]?) n) (i : Nat) (x : Nd) (hx : xs[i]? = some x) : pIn n x := by
 have hi : i < n := by have := (List.getElem?_eq_some_iff.1 hx).1; omega
 obtain ⟨c, hc⟩ := hw.inner hi
 refine ⟨fun hk => ?_, fun hk => ?_⟩
 ·obtain ⟨q, h1, h2, h3, h4, h5, h6⟩ := (T.ends_two (l := fun i => xs[i]?) hx (hnd i x hx) hk).1 hc
  have := h3.le
  exact ⟨q - 1, i - 1, by omega, by omega, by omega, by omega⟩
 ·rcases hk with hk | hk
  ·obtain ⟨h1, h2, h3⟩ := (T.ends_times (l := fun i => xs[i]?) hx (hnd i x hx) hk).1 hc
   exact ⟨i - 1, by omega, by omega⟩
  ·obtain ⟨h1, h2, h3⟩ := (T.ends_group (l := fun i => xs[i]?) hx (hnd i x hx) hk).1 hc
   exact ⟨i - 1, by omega, by omega⟩
theorem IsPat.whole {xs : List Nd} {t : T} (h : IsPat xs t) (h1 : 1 ≤ xs.length) : T.Whole (fun i => xs[i]?) xs.length := ⟨t, h.1, h.2.1, by have := h.2.2.1; omega⟩
theorem IsPat.uniq {xs : List Nd} {t t' : T} (h : IsPat xs t) (ho : t'.Ok) (ha : T.At (fun i => xs[i]?) t' 0) (hs : t'.size = xs.length) : t = t' :=
 (T.uniq _ t t' 0 0 h.1 ho h.2.1 ha (by rw [h.2.2.1, hs])).1
theorem may_out (p : Option Addr) (n cap : Nat) (hn : n < 1 ∨ 120 < n) (hs : n < 9223372036854775807) (w : World) :
  Calls Tryz.prog 40 #[.slice p n cap] w fun e w' => e = .returned (.bool false) ∧ Below w.heap.size w w' := by
 rcases hn with hn | hn
 ·obtain rfl : n = 0 := by omega
  go_enter Tryz.func40, Tryz.ntmps40
  go_wp2
  go_ret
  exact ⟨rfl, Below.refl _ _⟩
 ·have h1 : ¬ ((n : Int) < 1) := by omega
  go_enter Tryz.func40, Tryz.ntmps40
  go_wp2
  go_ret
  exact ⟨rfl, Below.refl _ _⟩
theorem may_in (b o n cap : Nat) (xs : List Nd) (hlen : xs.length = n) (h1 : 1 ≤ n) (hn : n ≤ 120) (hfit : ∀ (i : Nat) (x : Nd), xs[i]? = some x → x.Fits) (r : Bool) (hr : r = true ↔ ∃ t, IsPat xs t) (w : World) (hx : NodesAt w b o xs) :
  Calls Tryz.prog 40 #[.slice (some ⟨b, o, none⟩) n cap] w fun e w' => e = .returned (.bool r) ∧ Below w.heap.size w w' := by
 have HR := Lib.hid hr; have HFit := Lib.hid hfit
 clear hr hfit
 have lb := hx.lt
 go_enter Tryz.func40, Tryz.ntmps40
 go_wp2
 go_loopw [15] (fun i wr => ∃ k : Nat, k ≤ n ∧ i = .int .i64 k ∧ (∀ (j : Nat) (x : Nd), j < k → xs[j]? = some x → isNd x = true) ∧ Below w.heap.size w wr) (fun i _ => n - (RowKit.intOf i).toNat)
 case atStart =>
  exact ⟨0, by omega, rfl, fun j x hj => by omega, Below.refl _ _⟩
 case round =>
  obtain ⟨k, hk, rfl, hg, hB⟩ := hrel
  have HG := Lib.hid hg
  clear hg
  by_cases hlt : k < n
  ·obtain ⟨x, hxk⟩ : ∃ x, xs[k]? = some x := ⟨xs[k]'(by omega), List.getElem?_eq_getElem (by omega)⟩
   have hfx := HFit.out k x hxk
   have gl : isNd x = true → ∀ (j : Nat) (y : Nd), j < k + 1 → xs[j]? = some y → isNd y = true := fun h j y hj hy => by
    by_cases e : j = k
    ·subst e; rw [hxk] at hy; cases hy; exact h
    ·exact HG.out j y (by omega) hy
   have gf : isNd x = false → r = false := fun h => by
    cases r
    ·rfl
    ·obtain ⟨t, ht⟩ := HR.out.1 rfl
     have := ht.2.2.2.2.1 k x hxk
     rw [h] at this; cases this
   have GL := Lib.hid gl; have GF := Lib.hid gf
   clear gl gf HG HFit
   have hw := hx.below hB hx.lt
   have d := hw.cell k x hxk
   have lB := hB.size
   obtain ⟨kd, w0, w1, w2, w3, xa, xb, m, M, xn⟩ := x
   have d0 : wr.cell? ⟨b, o + k * 10, none⟩ = some (.int .i64 kd) := d 0 _ rfl
   have d1 : wr.cell? ⟨b, o + k * 10 + 1, none⟩ = some (.int .u64 w0) := d 1 _ rfl
   have d2 : wr.cell? ⟨b, o + k * 10 + 2, none⟩ = some (.int .u64 w1) := d 2 _ rfl
   have d3 : wr.cell? ⟨b, o + k * 10 + 3, none⟩ = some (.int .u64 w2) := d 3 _ rfl
   have d4 : wr.cell? ⟨b, o + k * 10 + 4, none⟩ = some (.int .u64 w3) := d 4 _ rfl
   have d5 : wr.cell? ⟨b, o + k * 10 + 5, none⟩ = some (.int .i64 xa) := d 5 _ rfl
   have d6 : wr.cell? ⟨b, o + k * 10 + 6, none⟩ = some (.int .i64 xb) := d 6 _ rfl
   have d7 : wr.cell? ⟨b, o + k * 10 + 7, none⟩ = some (.int .i64 m) := d 7 _ rfl
   have d8 : wr.cell? ⟨b, o + k * 10 + 8, none⟩ = some (.int .i64 M) := d 8 _ rfl
   have d9 : wr.cell? ⟨b, o + k * 10 + 9, none⟩ = some (.int .i64 xn) := d 9 _ rfl
   clear d hw hxk
   have IN := Lib.hid fun w => isnode_k kd w0 w1 w2 w3 xa xb m M xn hfx w
   have bA : Below w.heap.size w (wr.alloc (.cells #[.int .i64 kd, .int .u64 w0, .int .u64 w1, .int .u64 w2, .int .u64 w3, .int .i64 xa, .int .i64 xb, .int .i64 m, .int .i64 M, .int .i64 xn] 60)) := hB.alloc (by omega) _
   cases hv : isNd ⟨kd, w0, w1, w2, w3, xa, xb, m, M, xn⟩
   ·rw [hv] at IN
    obtain rfl : r = false := GF.out hv
    clear GL GF hv
    go_wp2_with (go_at_call 62; refine (IN.out _).mono ?_; rintro e w1 ⟨rfl, hB1⟩)
    go_ret
    exact ⟨rfl, bA.trans (hB1.mono bA.size)⟩
   ·rw [hv] at IN
    have G2 := Lib.hid (GL.out hv)
    clear GL GF hv
    go_wp2_with (go_at_call 62; refine (IN.out _).mono ?_; rintro e w1 ⟨rfl, hB1⟩)
    go_roundw
    case rel => exact ⟨k + 1, by omega, by simp, G2.out, bA.trans (hB1.mono bA.size)⟩
    case measure => (simp [RowKit.intOf]) <;> omega
  ·obtain rfl : k = n := by omega
   have hnd : ∀ (i : Nat) (x : Nd), xs[i]? = some x → isNd x = true := fun i x hi => HG.out i x (by have := (List.getElem?_eq_some_iff.1 hi).1; omega) hi
   have hX := hx.below hB lb
   by_cases hW : T.Whole (fun i => xs[i]?) k
   ·have hin := pIn_of_whole hlen hnd hW
    obtain ⟨t, ht, hat, hsz⟩ := hW
    have hsz : t.size = k := by omega
    have IO := Lib.hid fun w hx => inorder_c b o k cap xs hlen h1 hn hnd true ⟨fun _ => ⟨t, ht, hat, by omega⟩, fun _ => rfl⟩ w hx
    by_cases hP : ∀ (i : Nat) (x : Nd), xs[i]? = some x → pOk xs x
    ·have IP := Lib.hid fun w hx => partsmay_c b o k cap xs hlen h1 hn hnd hin true ⟨fun _ => hP, fun _ => rfl⟩ w hx
     have IA := Lib.hid fun w hx => arenumbered_c b o k cap xs hlen h1 hn t ht hat hsz w hx
     obtain rfl : r = (num t (0, fun _ => false)).isSome := by
      rw [Bool.eq_iff_iff, HR.out]
      constructor
      ·rintro ⟨t', h'⟩
       have := h'.uniq ht hat (by omega)
       subst this
       exact h'.2.2.2.2.2.2
      ·exact fun h => ⟨t, ht, hat, by omega, by omega, hnd, hP, h⟩
     clear HR HG HFit hnd hin hP
     go_wp2_with fail
     refine (IO.out _ hX).mono ?_
     rintro e w1 ⟨rfl, hB1⟩
     have hX1 := hX.below hB1 hX.lt
     have b1 := hB.trans (hB1.mono hB.size)
     go_wp2_with fail
     refine (IP.out _ hX1).mono ?_
     rintro e w2 ⟨rfl, hB2⟩
     have hX2 := hX1.below hB2 hX1.lt
     have b2 := b1.trans (hB2.mono b1.size)
     go_wp2_with fail
     refine (IA.out _ hX2).mono ?_
     rintro e w3 ⟨rfl, hB3⟩
     have b3 := b2.trans (hB3.mono b2.size)
     go_wp2
     go_ret
     exact ⟨rfl, b3⟩
    ·have IP := Lib.hid fun w hx => partsmay_c b o k cap xs hlen h1 hn hnd hin false ⟨fun h => absurd h (by decide), fun h => absurd h hP⟩ w hx
     obtain rfl : r = false := by
      cases r
      ·rfl
      ·obtain ⟨t', h'⟩ := HR.out.1 rfl
       exact absurd h'.2.2.2.2.2.1 hP
     clear HR HG HFit hnd hin hP
     go_wp2_with fail
     refine (IO.out _ hX).mono ?_
     rintro e w1 ⟨rfl, hB1⟩
     have hX1 := hX.below hB1 hX.lt
     have b1 := hB.trans (hB1.mono hB.size)
     go_wp2_with fail
     refine (IP.out _ hX1).mono ?_
     rintro e w2 ⟨rfl, hB2⟩
     have hX2 := hX1.below hB2 hX1.lt
     have b2 := b1.trans (hB2.mono b1.size)
     go_wp2
     go_ret
     exact ⟨rfl, b2⟩
   ·have IO := Lib.hid fun w hx => inorder_c b o k cap xs hlen h1 hn hnd false ⟨fun h => absurd h (by decide), fun h => absurd h hW⟩ w hx
    obtain rfl : r = false := by
     cases r
     ·rfl
     ·obtain ⟨t', h'⟩ := HR.out.1 rfl
      exact absurd (hlen ▸ h'.whole (by omega)) hW
    clear HR HG HFit hnd
    go_wp2_with (go_at_call 63; refine (IO.out _ hX).mono ?_; rintro e w1 ⟨rfl, hB1⟩)
    go_ret
    exact ⟨rfl, hB.trans (hB1.mono hB.size)⟩
theorem may_c (p : Option Addr) (n cap : Nat) (xs : List Nd) (hlen : xs.length = n) (hs : n < 9223372036854775807) (hp : 1 ≤ n → ∃ b o, p = some ⟨b, o, none⟩) (hfit : ∀ (i : Nat) (x : Nd), xs[i]? = some x → x.Fits) (r : Bool) (hr : r = true ↔ ∃ t, IsPat xs t) (w : World)
  (hx : ∀ b o, p = some ⟨b, o, none⟩ → NodesAt w b o xs) :
  Calls Tryz.prog 40 #[.slice p n cap] w fun e w' => e = .returned (.bool r) ∧ Below w.heap.size w w' := by
 by_cases hn : 1 ≤ n ∧ n ≤ 120
 ·obtain ⟨b, o, rfl⟩ := hp hn.1
  exact may_in b o n cap xs hlen hn.1 hn.2 hfit r hr w (hx b o rfl)
 ·obtain rfl : r = false := by
   cases r
   ·rfl
   ·obtain ⟨t, ht⟩ := hr.1 rfl
    have h1 := ht.2.2.1
    have h2 := ht.2.2.2.1
    have h3 := t.size_pos
    omega
  exact may_out p n cap (by omega) hs w
end Go.Proofs.YtgllmhheahlpjaaGreatDoor
namespace Go.Proofs.YtgllmhheahlpjaaGreatDoor
open Go.RowKit
structure Nodes (w : World) (p : Option Addr) (n : Nat) (xs : List Nd) : Prop where
 len : xs.length = n
 small : n < 9223372036854775807
 ptr : 1 ≤ n → ∃ b o, p = some ⟨b, o, none⟩
 at' : 1 ≤ n → ∀ b o, p = some ⟨b, o, none⟩ → NodesAt w b o xs
 fits : ∀ (i : Nat) (x : Nd), xs[i]? = some x → x.Fits
theorem Nodes.below {w w' : World} {p : Option Addr} {n : Nat} {xs : List Nd} (h : Nodes w p n xs) (hB : Below w.heap.size w w') : Nodes w' p n xs :=
 ⟨h.len, h.small, h.ptr, fun h1 b o e => (h.at' h1 b o e).below hB (h.at' h1 b o e).lt, h.fits⟩
theorem may_n (p : Option Addr) (n cap : Nat) (xs : List Nd) (r : Bool) (hr : r = true ↔ ∃ t, IsPat xs t) (w : World) (h : Nodes w p n xs) :
  Calls Tryz.prog 40 #[.slice p n cap] w fun e w' => e = .returned (.bool r) ∧ Below w.heap.size w w' := by
 by_cases hn : 1 ≤ n
 ·obtain ⟨b, o, rfl⟩ := h.ptr hn
  exact may_c _ n cap xs h.len h.small h.ptr h.fits r hr w fun b' o' e => h.at' hn b' o' e
 ·obtain rfl : r = false := by
   cases r
   ·rfl
   ·obtain ⟨t, ht⟩ := hr.1 rfl
    have h1 := ht.2.2.1
    have h3 := t.size_pos
    have := h.len
    omega
  exact may_out p n cap (by omega) h.small w
def gcnt (xs : List Nd) : Nat → Nat
 | 0 => 0
 | k + 1 => gcnt xs k + (match xs[k]? with | some x => if x.kind = 7 then 1 else 0 | none => 0)
def anyRef (xs : List Nd) (k : Nat) : Prop := ∃ (j : Nat) (x : Nd), j < k ∧ xs[j]? = some x ∧ x.kind = 8
theorem refs1_c (kd : Int) (w0 w1 w2 w3 : Nat) (xa xb m M xn : Int) (w : World) :
  Calls Tryz.prog 106 #[.agg #[.int .i64 kd, .int .u64 w0, .int .u64 w1, .int .u64 w2, .int .u64 w3, .int .i64 xa, .int .i64 xb, .int .i64 m, .int .i64 M, .int .i64 xn]] w fun e w' => e = .returned (.bool (kd == 8)) ∧ Below w.heap.size w w' := by
 go_enter Tryz.func106, Tryz.ntmps106
 go_wp2
 go_ret
 exact ⟨rfl, (Below.refl _ w).alloc (Nat.le_refl _) _⟩
theorem indexref_c (b o n cap : Nat) (xs : List Nd) (hlen : xs.length = n) (h1 : 1 ≤ n) (hn : n ≤ 120) (w : World) (hx : NodesAt w b o xs) :
  Calls Tryz.prog 130 #[.slice (some ⟨b, o, none⟩) n cap, .func (.func 106) #[] #[]] w fun e w' => (∃ r : Int, e = .returned (.int .i64 r) ∧ -1 ≤ r ∧ r ≤ 120 ∧ (0 ≤ r ↔ anyRef xs n)) ∧ Below w.heap.size w w' := by
 have lb := hx.lt
 go_enter Tryz.func130, Tryz.ntmps130
 go_wp2
 go_loopw [8] (fun i wr => ∃ k : Nat, k ≤ n ∧ i = .int .i64 k ∧ ¬ anyRef xs k ∧ Below w.heap.size w wr) (fun i _ => n - (RowKit.intOf i).toNat)
 case atStart => exact ⟨0, by omega, rfl, fun ⟨j, x, hj, _⟩ => by omega, Below.refl _ _⟩
 case round =>
  obtain ⟨k, hk, rfl, hg, hB⟩ := hrel
  have HG := Lib.hid hg
  clear hg
  by_cases hlt : k < n
  ·obtain ⟨x, hxk⟩ : ∃ x, xs[k]? = some x := ⟨xs[k]'(by omega), List.getElem?_eq_getElem (by omega)⟩
   have hw := hx.below hB hx.lt
   have d := hw.cell k x hxk
   have lB := hB.size
   have HA := Lib.hid hxk
   obtain ⟨kd, w0, w1, w2, w3, xa, xb, m, M, xn⟩ := x
   have d0 : wr.cell? ⟨b, o + k * 10, none⟩ = some (.int .i64 kd) := d 0 _ rfl
   have d1 : wr.cell? ⟨b, o + k * 10 + 1, none⟩ = some (.int .u64 w0) := d 1 _ rfl
   have d2 : wr.cell? ⟨b, o + k * 10 + 2, none⟩ = some (.int .u64 w1) := d 2 _ rfl
   have d3 : wr.cell? ⟨b, o + k * 10 + 3, none⟩ = some (.int .u64 w2) := d 3 _ rfl
   have d4 : wr.cell? ⟨b, o + k * 10 + 4, none⟩ = some (.int .u64 w3) := d 4 _ rfl
   have d5 : wr.cell? ⟨b, o + k * 10 + 5, none⟩ = some (.int .i64 xa) := d 5 _ rfl
   have d6 : wr.cell? ⟨b, o + k * 10 + 6, none⟩ = some (.int .i64 xb) := d 6 _ rfl
   have d7 : wr.cell? ⟨b, o + k * 10 + 7, none⟩ = some (.int .i64 m) := d 7 _ rfl
   have d8 : wr.cell? ⟨b, o + k * 10 + 8, none⟩ = some (.int .i64 M) := d 8 _ rfl
   have d9 : wr.cell? ⟨b, o + k * 10 + 9, none⟩ = some (.int .i64 xn) := d 9 _ rfl
   clear d hw hxk
   have IN := Lib.hid fun w => refs1_c kd w0 w1 w2 w3 xa xb m M xn w
   by_cases h8 : kd = 8
   ·subst h8
    have HY : anyRef xs n := ⟨k, _, hlt, HA.out, rfl⟩
    have HY := Lib.hid HY
    clear HA HG
    go_wp2_with (go_at_call 106; refine (IN.out _).mono ?_; rintro e w1 ⟨rfl, hB1⟩)
    go_ret
    exact ⟨⟨k, rfl, by omega, by omega, fun _ => HY.out, fun _ => by omega⟩, hB.trans (hB1.mono hB.size)⟩
   ·have z8 : (kd == 8) = false := by rw [beq_eq_false_iff_ne]; exact h8
    rw [z8] at IN
    have HY : ¬ anyRef xs (k + 1) := fun ⟨j, x, hj, hx, h⟩ => by
     by_cases e : j = k
     ·subst e; rw [HA.out] at hx; cases hx; exact h8 h
     ·exact HG.out ⟨j, x, by omega, hx, h⟩
    have HY := Lib.hid HY
    clear HA HG
    go_wp2_with (go_at_call 106; refine (IN.out _).mono ?_; rintro e w1 ⟨rfl, hB1⟩)
    go_roundw
    case rel => exact ⟨k + 1, by omega, by simp, HY.out, hB.trans (hB1.mono hB.size)⟩
    case measure => (simp [RowKit.intOf]) <;> omega
  ·obtain rfl : k = n := by omega
   go_wp2
   go_ret
   exact ⟨⟨-1, rfl, by omega, by omega, fun h => by omega, fun h => absurd h HG.out⟩, hB⟩
end Go.Proofs.YtgllmhheahlpjaaGreatDoor
namespace Go.Proofs.YtgllmhheahlpjaaGreatDoor
open Go.RowKit
theorem containsref_c (b o n cap : Nat) (xs : List Nd) (hlen : xs.length = n) (h1 : 1 ≤ n) (hn : n ≤ 120) (r : Bool) (hr : r = true ↔ anyRef xs n) (w : World) (hx : NodesAt w b o xs) :
  Calls Tryz.prog 105 #[.slice (some ⟨b, o, none⟩) n cap, .func (.func 106) #[] #[]] w fun e w' => e = .returned (.bool r) ∧ Below w.heap.size w w' := by
 have IX := Lib.hid (indexref_c b o n cap xs hlen h1 hn w hx)
 have HR := Lib.hid hr
 clear hr
 go_enter Tryz.func105, Tryz.ntmps105
 go_wp2_with fail
 refine IX.out.mono ?_
 rintro e w1 ⟨⟨z, rfl, hz1, hz2, hz⟩, hB⟩
 by_cases h0 : 0 ≤ z
 ·obtain rfl : r = true := HR.out.2 (hz.1 h0)
  have hd : decide (0 ≤ z) = true := by simpa using h0
  clear hz HR
  go_wp2
  go_ret
  exact ⟨rfl, hB⟩
 ·obtain rfl : r = false := by
   cases r
   ·rfl
   ·exact absurd (hz.2 (HR.out.1 rfl)) h0
  have hd : decide (0 ≤ z) = false := by simpa using h0
  clear hz HR
  go_wp2
  go_ret
  exact ⟨rfl, hB⟩
theorem refs_in (b o n cap : Nat) (xs : List Nd) (hlen : xs.length = n) (h1 : 1 ≤ n) (hn : n ≤ 120) (hfit : ∀ (i : Nat) (x : Nd), xs[i]? = some x → x.Fits) (hp : ∃ t, IsPat xs t) (r : Bool) (hr : r = true ↔ anyRef xs n) (w : World) (hx : NodesAt w b o xs) :
  Calls Tryz.prog 69 #[.slice (some ⟨b, o, none⟩) n cap] w fun e w' => e = .returned (.bool r) ∧ Below w.heap.size w w' := by
 have HM := Lib.hid fun w hx => may_in b o n cap xs hlen h1 hn hfit true ⟨fun _ => hp, fun _ => rfl⟩ w hx
 have HC := Lib.hid fun w hx => containsref_c b o n cap xs hlen h1 hn r hr w hx
 clear hp hfit hr
 go_enter Tryz.func69, Tryz.ntmps69
 go_wp2_with fail
 refine (HM.out _ hx).mono ?_
 rintro e w1 ⟨rfl, hB1⟩
 have hx1 := hx.below hB1 hx.lt
 go_wp2_with fail
 refine (HC.out _ hx1).mono ?_
 rintro e w2 ⟨rfl, hB2⟩
 go_wp2
 go_ret
 exact ⟨rfl, hB1.trans (hB2.mono hB1.size)⟩
end Go.Proofs.YtgllmhheahlpjaaGreatDoor
namespace Go.Proofs.YtgllmhheahlpjaaGreatDoor
open Go.RowKit
theorem infoNd : (Tryz.prog.info? 60).map (fun i => (i.zero, i.size, i.bytes)) = some (some (.agg #[.int .i64 0, .int .u64 0, .int .u64 0, .int .u64 0, .int .u64 0, .int .i64 0, .int .i64 0, .int .i64 0, .int .i64 0, .int .i64 0]), 10, 80) := by kernel_rfl
def flat (xs : List Nd) : List Value := xs.flatMap fun x => x.cells.toList
theorem flat_len : ∀ xs : List Nd, (flat xs).length = xs.length * 10
 | [] => rfl
 | x :: xs => by
  have := flat_len xs
  simp only [flat, List.flatMap_cons, List.length_append, List.length_cons] at *
  have h : x.cells.toList.length = 10 := rfl
  omega
theorem flat_at : ∀ (xs : List Nd) (j : Nat), j < xs.length * 10 → ∃ (i r : Nat) (x : Nd), xs[i]? = some x ∧ r < 10 ∧ j = i * 10 + r ∧ (flat xs)[j]? = x.cells[r]?
 | [], j, h => by simp at h
 | x :: xs, j, h => by
  have hl : x.cells.toList.length = 10 := rfl
  by_cases hj : j < 10
  ·refine ⟨0, j, x, rfl, hj, by omega, ?_⟩
   simp only [flat, List.flatMap_cons]
   rw [List.getElem?_append_left (by omega)]
   simp
  ·obtain ⟨i, r, y, h1, h2, h3, h4⟩ := flat_at xs (j - 10) (by simp only [List.length_cons] at h; omega)
   refine ⟨i + 1, r, y, h1, h2, by omega, ?_⟩
   simp only [flat, List.flatMap_cons] at h4 ⊢
   rw [List.getElem?_append_right (by omega), hl]
   exact h4
theorem flat_get (xs : List Nd) (i r : Nat) (x : Nd) (hx : xs[i]? = some x) (hr : r < 10) : (flat xs)[i * 10 + r]? = x.cells[r]? := by
 have hi : i < xs.length := (List.getElem?_eq_some_iff.1 hx).1
 obtain ⟨i', r', y, h1, h2, h3, h4⟩ := flat_at xs (i * 10 + r) (by omega)
 obtain rfl : i' = i := by omega
 obtain rfl : r' = r := by omega
 rw [hx] at h1
 cases h1
 exact h4
structure NRow (w : World) (g n : Nat) (xs : List Nd) : Prop where
 row : ∃ cur, w.heap[g]? = some (.cells cur 60 (0, 0)) ∧ ∀ (i r : Nat) (x : Nd), xs[i]? = some x → r < 10 → cur[i * 10 + r]? = x.cells[r]?
theorem clone_c (b o n cap : Nat) (xs : List Nd) (hlen : xs.length = n) (h1 : 1 ≤ n) (hn : n ≤ 120) (w : World) (hx : NodesAt w b o xs) :
  Calls Tryz.prog 107 #[.slice (some ⟨b, o, none⟩) n cap] w fun e w' => (∃ g cap', e = .returned (.slice (some ⟨g, 0, none⟩) n cap') ∧ w.heap.size ≤ g ∧ NRow w' g n xs) ∧ Below w.heap.size w w' := by
 obtain ⟨i0, hi, hz0, hz1, hz2⟩ := info_parts infoNd
 have hq : ∀ (w : World) (a : Option Addr) (n c n' c' : Nat), (binOp .eql 22 (.slice a n c) (.slice none n' c')).run Tryz.prog w = .ok (.bool a.isNone) w := fun w a n c n' c' => Lib.run_eql_slice_nil w _ _ a n c n' c' Tryz.underlying22
 have hfl := flat_len xs
 have hcell : ∀ j u, (flat xs)[j]? = some u → (w.alloc (.cells #[] 60)).cell? ((⟨b, o, none⟩ : Addr).add j) = some u := fun j u hj => by
  obtain ⟨i, r, x, e1, e2, e3, e4⟩ := flat_at xs j (by have := (List.getElem?_eq_some_iff.1 hj).1; omega)
  rw [e4] at hj
  rw [Addr.add_lit]
  refine cell_alloc1 _ ?_
  have := hx.cell i x e1 r u hj
  rw [e3, ← Nat.add_assoc]; exact this
 have hone : ∀ u ∈ flat xs, u.oneCell' = true := fun u hu => by
  simp only [flat, List.mem_flatMap] at hu
  obtain ⟨x, _, hx⟩ := hu
  simp [Nd.cells] at hx
  rcases hx with rfl | rfl | rfl | rfl | rfl | rfl | rfl | rfl | rfl | rfl <;> rfl
 go_enter Tryz.func107, Tryz.ntmps107
 go_wp2_with (at_builtin; refine wpList_append_own _ rfl _ _ 22 rfl w.heap.size 60 i0 (.agg #[.int .i64 0, .int .u64 0, .int .u64 0, .int .u64 0, .int .u64 0, .int .i64 0, .int .i64 0, .int .i64 0, .int .i64 0, .int .i64 0]) 10 80 Tryz.underlying22 hi hz0 hz1 hz2 rfl (by decide) _ _ _ rfl (World.ownsRow_made w #[] 0 (Nat.le_refl _) (Nat.zero_le _) (by simp)) ⟨b, o, none⟩ n cap (flat xs) rfl ?qc1 ?qc2 ?qc3 ?qc4 ?qc5 ?qc6 ?_)
 case qc1 => rw [hfl, hlen]
 case qc2 => exact hcell
 case qc3 => exact hone
 case qc4 => unfold maxLen; omega
 case qc5 => omega
 case qc6 => simp
 intro v' w1 hown hgrow hnil
 go_wp2
 go_ret
 have hB : Below w.heap.size w w1 := ((Below.refl _ w).alloc (Nat.le_refl _) _).grown hgrow (by simp) (by intro k hk; simp [Value.ownBlock] at hk; omega)
 refine ⟨?_, hB⟩
 rcases hown.2 with ⟨_, h0⟩ | ⟨g, cap', cur, rfl, hg, hb, _, _, _, ht⟩
 ·omega
 ·refine ⟨g, cap', rfl, hg, ⟨cur, hb, fun i r x hx hr => ?_⟩⟩
  rw [← flat_get xs i r x hx hr]
  have hi : i < xs.length := (List.getElem?_eq_some_iff.1 hx).1
  have : (cur.toList.take (n * 10))[i * 10 + r]? = (flat xs)[i * 10 + r]? := by rw [ht]
  rw [List.getElem?_take_of_lt (by omega)] at this
  rw [← this]
  simp
end Go.Proofs.YtgllmhheahlpjaaGreatDoor
namespace Go.Proofs.YtgllmhheahlpjaaGreatDoor
open Go.RowKit
def barr (f : Nat → Bool) : Array Value := ((List.range 256).map fun i => Value.bool (f i)).toArray
def bv (f : Nat → Bool) : Value := .agg (barr f)
section
variable {W : World} {b : Nat} {f : Nat → Bool}
end
end Go.Proofs.YtgllmhheahlpjaaGreatDoor
namespace Go.Proofs.YtgllmhheahlpjaaGreatDoor
open Go.RowKit
def part (f : Nat → Bool) (k j : Nat) : Bool := if (65 ≤ j ∧ j < k) ∨ (97 ≤ j ∧ j < k + 32) then foldF f j else f j
end Go.Proofs.YtgllmhheahlpjaaGreatDoor
namespace Go.Proofs.YtgllmhheahlpjaaGreatDoor
open Go.RowKit
theorem own_ge {W : World} {base k n : Nat} {v : Value} {xs : List Value} (h : W.ownsRow base 5 1 v k xs) (hn : v.ownBlock = some n) : base ≤ n := by
 rcases h.2 with ⟨rfl, _⟩ | ⟨g, cap, cur, rfl, hb, _⟩
 ·simp [Value.ownBlock] at hn
 ·have : g = n := by simpa [Value.ownBlock] using hn
  omega
end Go.Proofs.YtgllmhheahlpjaaGreatDoor
namespace Go.Proofs.YtgllmhheahlpjaaGreatDoor
open Go.RowKit Go.Lib
theorem idx_dig (q : Nat) (hq : q < 16) (w : World) : (Instr.index 9 (.string ⟨#[48, 49, 50, 51, 52, 53, 54, 55, 56, 57, 97, 98, 99, 100, 101, 102]⟩) (.int .u8 (q : Int))).run Tryz.prog w = .ok (.int .u8 ((dig q).toNat : Int)) w := by
 rcases (by omega : q = 0 ∨ q = 1 ∨ q = 2 ∨ q = 3 ∨ q = 4 ∨ q = 5 ∨ q = 6 ∨ q = 7 ∨ q = 8 ∨ q = 9 ∨ q = 10 ∨ q = 11 ∨ q = 12 ∨ q = 13 ∨ q = 14 ∨ q = 15) with rfl | rfl | rfl | rfl | rfl | rfl | rfl | rfl | rfl | rfl | rfl | rfl | rfl | rfl | rfl | rfl <;> kernel_rfl
def hexn (s : ByteArray) (k : Nat) : List Int := (hexl (s.data.toList.take k)).map fun c => (c.toNat : Int)
theorem hexl_len (l : List UInt8) : (hexl l).length = 2 * l.length := by
 induction l with
 | nil => rfl
 | cons a l ih => simp only [hexl, List.flatMap_cons, List.length_append, List.length_cons, List.length_nil] at *; omega
theorem hexn_len (s : ByteArray) (k : Nat) (h : k ≤ s.size) : (hexn s k).length = 2 * k := by
 simp only [hexn, List.length_map, hexl_len, List.length_take]
 have : s.data.toList.length = s.size := by simp
 omega
theorem hexn_succ (s : ByteArray) (k : Nat) (h : k < s.size) : hexn s (k + 1) = hexn s k ++ [((dig (s[k].toNat / 16)).toNat : Int), ((dig (s[k].toNat % 16)).toNat : Int)] := by
 have h' : k < s.data.toList.length := by simpa using h
 have e : s[k] = s.data.toList[k] := rfl
 simp only [hexn]
 rw [List.take_succ_eq_append_getElem h']
 simp [hexl, e]
theorem run_index_op {P : Program} {o : Oper} {ev : Operand → Value} {x i : Operand} {t : TypeId} {xv iv v : Value} {w : World} (h : (Instr.index t xv iv).run P w = .ok v w) (ho : o.op = .index t x i) (hx : ev x = xv) (hi : ev i = iv) :
  (execOp ev o).run P w = .ok (.value v) w := by
 unfold execOp
 simp only [ho, hx, hi, h, Sem.run_bind, Sem.run_pure, Result.andThen_ok]
theorem hexof_c (s : ByteArray) (hs : s.size ≤ 1000) (w : World) :
  Calls Tryz.prog 126 #[.string s] w fun e w' => e = .returned (.string (strOfNums (hexn s s.size))) ∧ Below w.heap.size w w' := by
 obtain ⟨i0, hi, hz0, hz1, hz2⟩ := info_parts infoU8
 obtain ⟨w1, hr, hown, hgrow⟩ := run_make_own (P := Tryz.prog) w w.heap.size 125 5 i0 (.int .u8 0) 1 Tryz.underlying125 hi hz0 hz1 .i64 .i64 (2 * s.size) (by rw [hz2]; omega) (by unfold maxLen; omega) (Nat.le_refl _)
 rw [show ((2 * s.size : Nat) : Int) = 2 * (s.size : Int) by omega] at hr
 have hB0 : Below w.heap.size w w1 := (Below.refl _ w).grown hgrow (Nat.le_refl _) (fun k e => by cases e)
 go_enter Tryz.func126, Tryz.ntmps126
 go_wp2
 clear hr hgrow
 go_loopw [3, 11] (fun v i wr => ∃ (k : Nat) (v' : Value), v = v' ∧ k ≤ s.size ∧ i = .int .i64 k ∧ wr.ownsRow w.heap.size 5 1 v' (2 * k) ((hexn s k).map (Value.int .u8)) ∧ Below w.heap.size w wr) (fun _ i _ => s.size - (RowKit.intOf i).toNat)
 case atStart => exact ⟨0, _, rfl, by omega, rfl, by simpa [hexn, hexl] using hown, hB0⟩
 case round =>
  clear hown hB0
  obtain ⟨k, v, rfl, hk, rfl, hown, hB⟩ := hrel
  by_cases hlt : k < s.size
  ·obtain ⟨c, hc⟩ : ∃ c : Nat, c = s[k].toNat := ⟨_, rfl⟩
   have hc256 : c < 256 := by rw [hc]; exact s[k].toNat_lt
   have hx : ∀ w, (Instr.index 9 (.string s) (.int .i64 (k : Int))).run Tryz.prog w = .ok (.int .u8 (c : Int)) w := fun w => by
    rw [run_index_string (P := Tryz.prog) w 9 s .i64 (k : Int) Tryz.underlying9, dif_pos ⟨by omega, by omega⟩]
    simp [hc]
   obtain ⟨q, hq⟩ : ∃ q : Nat, q = c / 16 := ⟨_, rfl⟩
   obtain ⟨m, hm⟩ : ∃ m : Nat, m = c % 16 := ⟨_, rfl⟩
   have h1 : IntKind.u8.wrap ((c : Int) / 16) = (q : Int) := by simp [IntKind.wrap, IntKind.signed, IntKind.bits]; omega
   have h2 : (c : Int).tmod 16 = (m : Int) := by rw [Int.tmod_eq_emod_of_nonneg (by omega)]; omega
   have i1 := idx_dig q (by omega)
   have i2 := idx_dig m (by omega)
   have hs1 := hexn_succ s k hlt
   rw [← hc, ← hq, ← hm] at hs1
   obtain ⟨d1, hd1⟩ : ∃ d : Int, d = ((dig q).toNat : Int) := ⟨_, rfl⟩
   obtain ⟨d2, hd2⟩ : ∃ d : Int, d = ((dig m).toNat : Int) := ⟨_, rfl⟩
   rw [← hd1] at i1 hs1
   rw [← hd2] at i2 hs1
   have HS1 := Lib.hid hs1
   clear hs1 hd1 hd2 hq hm hc
   go_wp2_with fail
   refine wp_region_noPanic ?_
   refine wp_region_held_drew (S := fun w' => Below w.heap.size w w') (by kernel_rfl) ?_ (fun hHeld => ?_)
   ·(try dsimp only); exact hB.drew
   refine wpAnyH_take (i := 0) (v := ?_) rfl (by kernel_rfl) (by kernel_rfl) (by kernel_rfl) (fun _ _ _ h => h) (Or.inl ⟨by kernel_rfl, ?_⟩) (by assumption) ?_
   rotate_left
   ·(intro w hSw; (try dsimp only at hSw); go_simp); (try with_reducible rfl)
   try simp only [Act.put, laS]
   refine wpAnyH_take (i := 1) (v := ?_) rfl (by kernel_rfl) (by kernel_rfl) (by kernel_rfl) (fun _ _ _ h => h) (Or.inl ⟨by kernel_rfl, ?_⟩) (by assumption) ?_
   rotate_left
   ·(intro w hSw; (try dsimp only at hSw); go_simp); (try with_reducible rfl)
   try simp only [Act.put, laS]
   refine wpAnyH_take (i := 2) (v := ?_) rfl (by kernel_rfl) (by kernel_rfl) (by kernel_rfl) (fun _ _ _ h => h) (Or.inl ⟨by kernel_rfl, ?_⟩) (by assumption) ?_
   rotate_left
   ·(intro w hSw; (try dsimp only at hSw); go_simp); (try with_reducible rfl)
   try simp only [Act.put, laS]
   refine wpAnyH_take (i := 3) (v := (.int .u8 (c : Int))) rfl (by kernel_rfl) (by kernel_rfl) (by kernel_rfl) (fun _ _ _ h => h) (Or.inl ⟨by kernel_rfl, fun w _ => run_index_op (hx w) rfl rfl rfl⟩) (by assumption) ?_
   try simp only [Act.put, laS]
   refine wpAnyH_take (i := 4) (v := (.int .u8 (q : Int))) rfl (by kernel_rfl) (by kernel_rfl) (by kernel_rfl) (fun _ _ _ h => h) (Or.inl ⟨by kernel_rfl, fun w _ => by go_simp⟩) (by assumption) ?_
   try simp only [Act.put, laS]
   refine wpAnyH_take (i := 5) (v := (.int .u8 d1)) rfl (by kernel_rfl) (by kernel_rfl) (by kernel_rfl) (fun _ _ _ h => h) (Or.inl ⟨by kernel_rfl, fun w _ => run_index_op (i1 w) rfl rfl rfl⟩) (by assumption) ?_
   try simp only [Act.put, laS]
   refine wpAnyH_take (i := 6) (v := ?_) rfl (by kernel_rfl) (by kernel_rfl) (by kernel_rfl) (fun _ _ _ h => h) (Or.inl ⟨by kernel_rfl, ?_⟩) (by assumption) ?_
   rotate_left
   ·(intro w hSw; (try dsimp only at hSw); go_simp); (try with_reducible rfl)
   try simp only [Act.put, laS]
   refine wpAnyH_take (i := 7) (v := ?_) rfl (by kernel_rfl) (by kernel_rfl) (by kernel_rfl) (fun _ _ _ h => h) (Or.inl ⟨by kernel_rfl, ?_⟩) (by assumption) ?_
   rotate_left
   ·(intro w hSw; (try dsimp only at hSw); go_simp); (try with_reducible rfl)
   try simp only [Act.put, laS]
   refine wpAnyH_take (i := 8) (v := (.int .u8 (c : Int))) rfl (by kernel_rfl) (by kernel_rfl) (by kernel_rfl) (fun _ _ _ h => h) (Or.inl ⟨by kernel_rfl, fun w _ => run_index_op (hx w) rfl rfl rfl⟩) (by assumption) ?_
   try simp only [Act.put, laS]
   refine wpAnyH_take (i := 9) (v := (.int .u8 (m : Int))) rfl (by kernel_rfl) (by kernel_rfl) (by kernel_rfl) (fun _ _ _ h => h) (Or.inl ⟨by kernel_rfl, fun w _ => by go_simp⟩) (by assumption) ?_
   try simp only [Act.put, laS]
   refine wpAnyH_take (i := 10) (v := (.int .u8 d2)) rfl (by kernel_rfl) (by kernel_rfl) (by kernel_rfl) (fun _ _ _ h => h) (Or.inl ⟨by kernel_rfl, fun w _ => run_index_op (i2 w) rfl rfl rfl⟩) (by assumption) ?_
   try simp only [Act.put, laS]
   refine wpAnyH_ready (rs := [11]) (by kernel_rfl) (by simp) ?_
   refine AllReadyH.cons rfl (fun K hK => ?_) AllReadyH.nil
   have hbs := hB.size
   go_simp
   refine hK.out _ _ ?_ (fun hHeld => ?_)
   ·exact (hB.alloc hbs _).drew
   clear hK K
   try simp only [Act.put, laS]
   refine wpAnyH_ready (rs := [12]) (by kernel_rfl) (by simp) ?_
   refine AllReadyH.cons rfl (fun K hK => ?_) AllReadyH.nil
   rw [if_pos (by kernel_rfl)]
   have hownA := (hown.alloc (.cells #[.int .u8 d1, .int .u8 d2] 5))
   have hsz : (((wr.alloc (.cells #[.int .u8 d1, .int .u8 d2] 5)).drew)).heap.size = wr.heap.size + 1 := World.size_alloc _ _
   have hcells : ∀ j u, ([.int .u8 d1, .int .u8 d2] : List Value)[j]? = some u → (((wr.alloc (.cells #[.int .u8 d1, .int .u8 d2] 5)).drew)).cell? ((⟨wr.heap.size, 0, none⟩ : Addr).add j) = some u := fun j u hj => by
    have hh : ((wr.alloc (.cells #[.int .u8 d1, .int .u8 d2] 5)).drew).heap[wr.heap.size]? = some (.cells #[.int .u8 d1, .int .u8 d2] 5 (0, 0)) := heap_new wr _
    rw [Addr.add_lit]
    rw [Nat.zero_add, cell_of _ _ _ _ hh]
    simpa using hj
   refine wp_append_lies (P := Tryz.prog) _ _ _ 125 rfl w.heap.size 5 i0 (.int .u8 0) 1 1 Tryz.underlying125 hi hz0 hz1 hz2 rfl (by decide) _ (2 * k) _ rfl hownA ⟨wr.heap.size, 0, none⟩ 2 2 [.int .u8 d1, .int .u8 d2] rfl rfl hcells (by simp [Value.oneCell']) (by decide) (by unfold maxLen; omega) (by omega) (by rw [hsz]; omega) _ rfl ?_
   intro g cap w3 hown3 hgrow3 hat3 hlt3
   have hB3 : Below w.heap.size w w3 := ((hB.alloc hbs (.cells #[.int .u8 d1, .int .u8 d2] 5)).drew).grown hgrow3 (by rw [hsz]; omega) fun n hn => own_ge hown hn
   refine hK.out _ _ hB3 (fun hHeld => ?_)
   clear hK K
   try simp only [Act.put, laS]
   refine wpAnyH_take (i := 13) (v := ?_) rfl (by kernel_rfl) (by kernel_rfl) (by kernel_rfl) (fun _ _ _ h => h) (Or.inl ⟨by kernel_rfl, ?_⟩) (by assumption) ?_
   rotate_left
   ·(intro w hSw; (try dsimp only at hSw); go_simp); (try with_reducible rfl)
   try simp only [Act.put, laS]
   refine wpAnyH_done (by kernel_rfl) ?_ _
   refine NoPanic.normal ?_
   go_wp2
   go_roundw
   case rel => exact ⟨k + 1, _, rfl, by omega, by simp, by rw [HS1.out, List.map_append]; exact hown3, hB3⟩
   case measure => (simp [RowKit.intOf]) <;> omega
  ·obtain rfl : k = s.size := by omega
   have hcv := convert_own hown
   go_wp2
   go_ret
   exact ⟨rfl, hB⟩
end Go.Proofs.YtgllmhheahlpjaaGreatDoor
