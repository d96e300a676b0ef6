/- May. -/
import Derived.Test.YtkcbknfhckomcaaGreatDoorYRxU
set_option linter.unusedVariables false
set_option linter.unusedSimpArgs false
set_option maxRecDepth 100000
set_option maxHeartbeats 40000000
namespace Go.Proofs.YtkcbknfhckomcaaGreatDoor
open Go.RowKit
theorem pIn_of_whole {xs : List Nd} {n : Nat} (hlen : xs.length = n) (hnd : ∀ (i : Nat) (x : Nd), xs[i]? = some x → isNd x = true) (hw : T.Whole (fun i => xs[i]?) n) (i : Nat) (x : Nd) (hx : xs[i]? = some x) : pIn n x := by
 have hi : i < n := by have := (List.getElem?_eq_some_iff.1 hx).1; omega
 obtain ⟨c, hc⟩ := hw.inner hi
 refine ⟨fun hk => ?_, fun hk => ?_⟩
 ·obtain ⟨q, h1, h2, h3, h4, h5, h6⟩ := (T.ends_two (l := fun i => xs[i]?) hx (hnd i x hx) hk).1 hc
  have := h3.le
  exact ⟨q - 1, i - 1, by omega, by omega, by omega, by omega⟩
 ·rcases hk with hk | hk
  ·obtain ⟨h1, h2, h3⟩ := (T.ends_times (l := fun i => xs[i]?) hx (hnd i x hx) hk).1 hc
   exact ⟨i - 1, by omega, by omega⟩
  ·obtain ⟨h1, h2, h3⟩ := (T.ends_group (l := fun i => xs[i]?) hx (hnd i x hx) hk).1 hc
   exact ⟨i - 1, by omega, by omega⟩
theorem IsPat.whole {xs : List Nd} {t : T} (h : IsPat xs t) (h1 : 1 ≤ xs.length) : T.Whole (fun i => xs[i]?) xs.length := ⟨t, h.1, h.2.1, by have := h.2.2.1; omega⟩
theorem IsPat.uniq {xs : List Nd} {t t' : T} (h : IsPat xs t) (ho : t'.Ok) (ha : T.At (fun i => xs[i]?) t' 0) (hs : t'.size = xs.length) : t = t' :=
 (T.uniq _ t t' 0 0 h.1 ho h.2.1 ha (by rw [h.2.2.1, hs])).1
theorem may_out (p : Option Addr) (n cap : Nat) (hn : n < 1 ∨ 120 < n) (hs : n < 9223372036854775807) (w : World) :
  Calls Tryz.prog 11 #[.slice p n cap] w fun e w' => e = .returned (.bool false) ∧ Below w.heap.size w w' := by
 rcases hn with hn | hn
 ·obtain rfl : n = 0 := by omega
  go_enter Tryz.func11, Tryz.ntmps11
  go_wp2
  go_ret
  exact ⟨rfl, Below.refl _ _⟩
 ·have h1 : ¬ ((n : Int) < 1) := by omega
  go_enter Tryz.func11, Tryz.ntmps11
  go_wp2
  go_ret
  exact ⟨rfl, Below.refl _ _⟩
theorem may_in (b o n cap : Nat) (xs : List Nd) (hlen : xs.length = n) (h1 : 1 ≤ n) (hn : n ≤ 120) (hfit : ∀ (i : Nat) (x : Nd), xs[i]? = some x → x.Fits) (r : Bool) (hr : r = true ↔ ∃ t, IsPat xs t) (w : World) (hx : NodesAt w b o xs) :
  Calls Tryz.prog 11 #[.slice (some ⟨b, o, none⟩) n cap] w fun e w' => e = .returned (.bool r) ∧ Below w.heap.size w w' := by
 have HR := Lib.hid hr; have HFit := Lib.hid hfit
 clear hr hfit
 have lb := hx.lt
 go_enter Tryz.func11, Tryz.ntmps11
 go_wp2
 go_loopw [15] (fun i wr => ∃ k : Nat, k ≤ n ∧ i = .int .i64 k ∧ (∀ (j : Nat) (x : Nd), j < k → xs[j]? = some x → isNd x = true) ∧ Below w.heap.size w wr) (fun i _ => n - (RowKit.intOf i).toNat)
 case atStart =>
  exact ⟨0, by omega, rfl, fun j x hj => by omega, Below.refl _ _⟩
 case round =>
  obtain ⟨k, hk, rfl, hg, hB⟩ := hrel
  have HG := Lib.hid hg
  clear hg
  by_cases hlt : k < n
  ·obtain ⟨x, hxk⟩ : ∃ x, xs[k]? = some x := ⟨xs[k]'(by omega), List.getElem?_eq_getElem (by omega)⟩
   have hfx := HFit.out k x hxk
   have gl : isNd x = true → ∀ (j : Nat) (y : Nd), j < k + 1 → xs[j]? = some y → isNd y = true := fun h j y hj hy => by
    by_cases e : j = k
    ·subst e; rw [hxk] at hy; cases hy; exact h
    ·exact HG.out j y (by omega) hy
   have gf : isNd x = false → r = false := fun h => by
    cases r
    ·rfl
    ·obtain ⟨t, ht⟩ := HR.out.1 rfl
     have := ht.2.2.2.2.1 k x hxk
     rw [h] at this; cases this
   have GL := Lib.hid gl; have GF := Lib.hid gf
   clear gl gf HG HFit
   have hw := hx.below hB hx.lt
   have d := hw.cell k x hxk
   have lB := hB.size
   obtain ⟨kd, w0, w1, w2, w3, xa, xb, m, M, xn⟩ := x
   have d0 : wr.cell? ⟨b, o + k * 10, none⟩ = some (.int .i64 kd) := d 0 _ rfl
   have d1 : wr.cell? ⟨b, o + k * 10 + 1, none⟩ = some (.int .u64 w0) := d 1 _ rfl
   have d2 : wr.cell? ⟨b, o + k * 10 + 2, none⟩ = some (.int .u64 w1) := d 2 _ rfl
   have d3 : wr.cell? ⟨b, o + k * 10 + 3, none⟩ = some (.int .u64 w2) := d 3 _ rfl
   have d4 : wr.cell? ⟨b, o + k * 10 + 4, none⟩ = some (.int .u64 w3) := d 4 _ rfl
   have d5 : wr.cell? ⟨b, o + k * 10 + 5, none⟩ = some (.int .i64 xa) := d 5 _ rfl
   have d6 : wr.cell? ⟨b, o + k * 10 + 6, none⟩ = some (.int .i64 xb) := d 6 _ rfl
   have d7 : wr.cell? ⟨b, o + k * 10 + 7, none⟩ = some (.int .i64 m) := d 7 _ rfl
   have d8 : wr.cell? ⟨b, o + k * 10 + 8, none⟩ = some (.int .i64 M) := d 8 _ rfl
   have d9 : wr.cell? ⟨b, o + k * 10 + 9, none⟩ = some (.int .i64 xn) := d 9 _ rfl
   clear d hw hxk
   have IN := Lib.hid fun w => isnode_k kd w0 w1 w2 w3 xa xb m M xn hfx w
   have bA : Below w.heap.size w (wr.alloc (.cells #[.int .i64 kd, .int .u64 w0, .int .u64 w1, .int .u64 w2, .int .u64 w3, .int .i64 xa, .int .i64 xb, .int .i64 m, .int .i64 M, .int .i64 xn] 40)) := hB.alloc (by omega) _
   cases hv : isNd ⟨kd, w0, w1, w2, w3, xa, xb, m, M, xn⟩
   ·rw [hv] at IN
    obtain rfl : r = false := GF.out hv
    clear GL GF hv
    go_wp2_with (go_at_call 22; refine (IN.out _).mono ?_; rintro e w1 ⟨rfl, hB1⟩)
    go_ret
    exact ⟨rfl, bA.trans (hB1.mono bA.size)⟩
   ·rw [hv] at IN
    have G2 := Lib.hid (GL.out hv)
    clear GL GF hv
    go_wp2_with (go_at_call 22; refine (IN.out _).mono ?_; rintro e w1 ⟨rfl, hB1⟩)
    go_roundw
    case rel => exact ⟨k + 1, by omega, by simp, G2.out, bA.trans (hB1.mono bA.size)⟩
    case measure => (simp [RowKit.intOf]) <;> omega
  ·obtain rfl : k = n := by omega
   have hnd : ∀ (i : Nat) (x : Nd), xs[i]? = some x → isNd x = true := fun i x hi => HG.out i x (by have := (List.getElem?_eq_some_iff.1 hi).1; omega) hi
   have hX := hx.below hB lb
   by_cases hW : T.Whole (fun i => xs[i]?) k
   ·have hin := pIn_of_whole hlen hnd hW
    obtain ⟨t, ht, hat, hsz⟩ := hW
    have hsz : t.size = k := by omega
    have IO := Lib.hid fun w hx => inorder_c b o k cap xs hlen h1 hn hnd true ⟨fun _ => ⟨t, ht, hat, by omega⟩, fun _ => rfl⟩ w hx
    by_cases hP : ∀ (i : Nat) (x : Nd), xs[i]? = some x → pOk xs x
    ·have IP := Lib.hid fun w hx => partsmay_c b o k cap xs hlen h1 hn hnd hin true ⟨fun _ => hP, fun _ => rfl⟩ w hx
     have IA := Lib.hid fun w hx => arenumbered_c b o k cap xs hlen h1 hn t ht hat hsz w hx
     obtain rfl : r = (num t (0, fun _ => false)).isSome := by
      rw [Bool.eq_iff_iff, HR.out]
      constructor
      ·rintro ⟨t', h'⟩
       have := h'.uniq ht hat (by omega)
       subst this
       exact h'.2.2.2.2.2.2
      ·exact fun h => ⟨t, ht, hat, by omega, by omega, hnd, hP, h⟩
     clear HR HG HFit hnd hin hP
     go_wp2_with fail
     refine (IO.out _ hX).mono ?_
     rintro e w1 ⟨rfl, hB1⟩
     have hX1 := hX.below hB1 hX.lt
     have b1 := hB.trans (hB1.mono hB.size)
     go_wp2_with fail
     refine (IP.out _ hX1).mono ?_
     rintro e w2 ⟨rfl, hB2⟩
     have hX2 := hX1.below hB2 hX1.lt
     have b2 := b1.trans (hB2.mono b1.size)
     go_wp2_with fail
     refine (IA.out _ hX2).mono ?_
     rintro e w3 ⟨rfl, hB3⟩
     have b3 := b2.trans (hB3.mono b2.size)
     go_wp2
     go_ret
     exact ⟨rfl, b3⟩
    ·have IP := Lib.hid fun w hx => partsmay_c b o k cap xs hlen h1 hn hnd hin false ⟨fun h => absurd h (by decide), fun h => absurd h hP⟩ w hx
     obtain rfl : r = false := by
      cases r
      ·rfl
      ·obtain ⟨t', h'⟩ := HR.out.1 rfl
       exact absurd h'.2.2.2.2.2.1 hP
     clear HR HG HFit hnd hin hP
     go_wp2_with fail
     refine (IO.out _ hX).mono ?_
     rintro e w1 ⟨rfl, hB1⟩
     have hX1 := hX.below hB1 hX.lt
     have b1 := hB.trans (hB1.mono hB.size)
     go_wp2_with fail
     refine (IP.out _ hX1).mono ?_
     rintro e w2 ⟨rfl, hB2⟩
     have hX2 := hX1.below hB2 hX1.lt
     have b2 := b1.trans (hB2.mono b1.size)
     go_wp2
     go_ret
     exact ⟨rfl, b2⟩
   ·have IO := Lib.hid fun w hx => inorder_c b o k cap xs hlen h1 hn hnd false ⟨fun h => absurd h (by decide), fun h => absurd h hW⟩ w hx
    obtain rfl : r = false := by
     cases r
     ·rfl
     ·obtain ⟨t', h'⟩ := HR.out.1 rfl
      exact absurd (hlen ▸ h'.whole (by omega)) hW
    clear HR HG HFit hnd
    go_wp2_with (go_at_call 23; refine (IO.out _ hX).mono ?_; rintro e w1 ⟨rfl, hB1⟩)
    go_ret
    exact ⟨rfl, hB.trans (hB1.mono hB.size)⟩
theorem may_c (p : Option Addr) (n cap : Nat) (xs : List Nd) (hlen : xs.length = n) (hs : n < 9223372036854775807) (hp : 1 ≤ n → ∃ b o, p = some ⟨b, o, none⟩) (hfit : ∀ (i : Nat) (x : Nd), xs[i]? = some x → x.Fits) (r : Bool) (hr : r = true ↔ ∃ t, IsPat xs t) (w : World)
  (hx : ∀ b o, p = some ⟨b, o, none⟩ → NodesAt w b o xs) :
  Calls Tryz.prog 11 #[.slice p n cap] w fun e w' => e = .returned (.bool r) ∧ Below w.heap.size w w' := by
 by_cases hn : 1 ≤ n ∧ n ≤ 120
 ·obtain ⟨b, o, rfl⟩ := hp hn.1
  exact may_in b o n cap xs hlen hn.1 hn.2 hfit r hr w (hx b o rfl)
 ·obtain rfl : r = false := by
   cases r
   ·rfl
   ·obtain ⟨t, ht⟩ := hr.1 rfl
    have h1 := ht.2.2.1
    have h2 := ht.2.2.2.1
    have h3 := t.size_pos
    omega
  exact may_out p n cap (by omega) hs w
end Go.Proofs.YtkcbknfhckomcaaGreatDoor
namespace Go.Proofs.YtkcbknfhckomcaaGreatDoor
open Go.RowKit
structure Nodes (w : World) (p : Option Addr) (n : Nat) (xs : List Nd) : Prop where
 len : xs.length = n
 small : n < 9223372036854775807
 ptr : 1 ≤ n → ∃ b o, p = some ⟨b, o, none⟩
 at' : 1 ≤ n → ∀ b o, p = some ⟨b, o, none⟩ → NodesAt w b o xs
 fits : ∀ (i : Nat) (x : Nd), xs[i]? = some x → x.Fits
theorem Nodes.below {w w' : World} {p : Option Addr} {n : Nat} {xs : List Nd} (h : Nodes w p n xs) (hB : Below w.heap.size w w') : Nodes w' p n xs :=
 ⟨h.len, h.small, h.ptr, fun h1 b o e => (h.at' h1 b o e).below hB (h.at' h1 b o e).lt, h.fits⟩
theorem may_n (p : Option Addr) (n cap : Nat) (xs : List Nd) (r : Bool) (hr : r = true ↔ ∃ t, IsPat xs t) (w : World) (h : Nodes w p n xs) :
  Calls Tryz.prog 11 #[.slice p n cap] w fun e w' => e = .returned (.bool r) ∧ Below w.heap.size w w' := by
 by_cases hn : 1 ≤ n
 ·obtain ⟨b, o, rfl⟩ := h.ptr hn
  exact may_c _ n cap xs h.len h.small h.ptr h.fits r hr w fun b' o' e => h.at' hn b' o' e
 ·obtain rfl : r = false := by
   cases r
   ·rfl
   ·obtain ⟨t, ht⟩ := hr.1 rfl
    have h1 := ht.2.2.1
    have h3 := t.size_pos
    have := h.len
    omega
  exact may_out p n cap (by omega) h.small w
def gcnt (xs : List Nd) : Nat → Nat
 | 0 => 0
 | k + 1 => gcnt xs k + (match xs[k]? with | some x => if x.kind = 7 then 1 else 0 | none => 0)
theorem gcnt_le (xs : List Nd) : ∀ k, gcnt xs k ≤ k
 | 0 => Nat.le_refl _
 | k + 1 => by
  have := gcnt_le xs k
  simp only [gcnt]
  split
  ·split <;> omega
  ·omega
theorem groups_in (b o n cap : Nat) (xs : List Nd) (hlen : xs.length = n) (h1 : 1 ≤ n) (hn : n ≤ 120) (hfit : ∀ (i : Nat) (x : Nd), xs[i]? = some x → x.Fits) (hp : ∃ t, IsPat xs t) (w : World) (hx : NodesAt w b o xs) :
  Calls Tryz.prog 9 #[.slice (some ⟨b, o, none⟩) n cap] w fun e w' => e = .returned (.int .i64 (gcnt xs n)) ∧ Below w.heap.size w w' := by
 have HM := Lib.hid fun w hx => may_in b o n cap xs hlen h1 hn hfit true ⟨fun _ => hp, fun _ => rfl⟩ w hx
 clear hp hfit
 have lb := hx.lt
 go_enter Tryz.func9, Tryz.ntmps9
 go_wp2_with (go_at_call 11; refine (HM.out _ hx).mono ?_; rintro e w1 ⟨rfl, hB1⟩)
 go_loopw [3, 11] (fun g i wr => ∃ k : Nat, k ≤ n ∧ i = .int .i64 k ∧ g = .int .i64 (gcnt xs k) ∧ Below w.heap.size w wr) (fun _ i _ => n - (RowKit.intOf i).toNat)
 case atStart => exact ⟨0, by omega, rfl, rfl, hB1⟩
 case round =>
  obtain ⟨k, hk, rfl, rfl, hB⟩ := hrel
  by_cases hlt : k < n
  ·obtain ⟨x, hxk⟩ : ∃ x, xs[k]? = some x := ⟨xs[k]'(by omega), List.getElem?_eq_getElem (by omega)⟩
   have hw := hx.below hB hx.lt
   have d := hw.cell k x hxk
   have lB := hB.size
   have hle := gcnt_le xs k
   have hs : gcnt xs (k + 1) = gcnt xs k + (if x.kind = 7 then 1 else 0) := by simp only [gcnt, hxk]
   obtain ⟨kd, w0, w1', w2, w3, xa, xb, m, M, xn⟩ := x
   have d0 : wr.cell? ⟨b, o + k * 10, none⟩ = some (.int .i64 kd) := d 0 _ rfl
   have d1 : wr.cell? ⟨b, o + k * 10 + 1, none⟩ = some (.int .u64 w0) := d 1 _ rfl
   have d2 : wr.cell? ⟨b, o + k * 10 + 2, none⟩ = some (.int .u64 w1') := d 2 _ rfl
   have d3 : wr.cell? ⟨b, o + k * 10 + 3, none⟩ = some (.int .u64 w2) := d 3 _ rfl
   have d4 : wr.cell? ⟨b, o + k * 10 + 4, none⟩ = some (.int .u64 w3) := d 4 _ rfl
   have d5 : wr.cell? ⟨b, o + k * 10 + 5, none⟩ = some (.int .i64 xa) := d 5 _ rfl
   have d6 : wr.cell? ⟨b, o + k * 10 + 6, none⟩ = some (.int .i64 xb) := d 6 _ rfl
   have d7 : wr.cell? ⟨b, o + k * 10 + 7, none⟩ = some (.int .i64 m) := d 7 _ rfl
   have d8 : wr.cell? ⟨b, o + k * 10 + 8, none⟩ = some (.int .i64 M) := d 8 _ rfl
   have d9 : wr.cell? ⟨b, o + k * 10 + 9, none⟩ = some (.int .i64 xn) := d 9 _ rfl
   clear d hw hxk
   simp only at hs
   obtain ⟨gk, hgk⟩ : ∃ g, g = gcnt xs k := ⟨_, rfl⟩
   rw [← hgk] at hs hle ⊢
   clear hgk
   by_cases h7 : kd = 7
   ·subst h7
    rw [if_pos rfl] at hs
    have HS := Lib.hid hs
    clear hs
    go_wp2
    go_roundw
    case rel => exact ⟨k + 1, by omega, by simp, by rw [HS.out]; simp, hB.alloc (by omega) _⟩
    case measure => (simp [RowKit.intOf]) <;> omega
   ·have z7 : (kd == 7) = false := by rw [beq_eq_false_iff_ne]; exact h7
    rw [if_neg h7] at hs
    have HS := Lib.hid hs
    clear hs
    go_wp2
    go_roundw
    case rel => exact ⟨k + 1, by omega, by simp, by rw [HS.out]; simp, hB.alloc (by omega) _⟩
    case measure => (simp [RowKit.intOf]) <;> omega
  ·obtain rfl : k = n := by omega
   go_wp2
   go_ret
   exact ⟨rfl, hB⟩
def anyRef (xs : List Nd) (k : Nat) : Prop := ∃ (j : Nat) (x : Nd), j < k ∧ xs[j]? = some x ∧ x.kind = 8
theorem refs1_c (kd : Int) (w0 w1 w2 w3 : Nat) (xa xb m M xn : Int) (w : World) :
  Calls Tryz.prog 21 #[.agg #[.int .i64 kd, .int .u64 w0, .int .u64 w1, .int .u64 w2, .int .u64 w3, .int .i64 xa, .int .i64 xb, .int .i64 m, .int .i64 M, .int .i64 xn]] w fun e w' => e = .returned (.bool (kd == 8)) ∧ Below w.heap.size w w' := by
 go_enter Tryz.func21, Tryz.ntmps21
 go_wp2
 go_ret
 exact ⟨rfl, (Below.refl _ w).alloc (Nat.le_refl _) _⟩
theorem indexref_c (b o n cap : Nat) (xs : List Nd) (hlen : xs.length = n) (h1 : 1 ≤ n) (hn : n ≤ 120) (w : World) (hx : NodesAt w b o xs) :
  Calls Tryz.prog 39 #[.slice (some ⟨b, o, none⟩) n cap, .func (.func 21) #[] #[]] w fun e w' => (∃ r : Int, e = .returned (.int .i64 r) ∧ -1 ≤ r ∧ r ≤ 120 ∧ (0 ≤ r ↔ anyRef xs n)) ∧ Below w.heap.size w w' := by
 have lb := hx.lt
 go_enter Tryz.func39, Tryz.ntmps39
 go_wp2
 go_loopw [8] (fun i wr => ∃ k : Nat, k ≤ n ∧ i = .int .i64 k ∧ ¬ anyRef xs k ∧ Below w.heap.size w wr) (fun i _ => n - (RowKit.intOf i).toNat)
 case atStart => exact ⟨0, by omega, rfl, fun ⟨j, x, hj, _⟩ => by omega, Below.refl _ _⟩
 case round =>
  obtain ⟨k, hk, rfl, hg, hB⟩ := hrel
  have HG := Lib.hid hg
  clear hg
  by_cases hlt : k < n
  ·obtain ⟨x, hxk⟩ : ∃ x, xs[k]? = some x := ⟨xs[k]'(by omega), List.getElem?_eq_getElem (by omega)⟩
   have hw := hx.below hB hx.lt
   have d := hw.cell k x hxk
   have lB := hB.size
   have HA := Lib.hid hxk
   obtain ⟨kd, w0, w1, w2, w3, xa, xb, m, M, xn⟩ := x
   have d0 : wr.cell? ⟨b, o + k * 10, none⟩ = some (.int .i64 kd) := d 0 _ rfl
   have d1 : wr.cell? ⟨b, o + k * 10 + 1, none⟩ = some (.int .u64 w0) := d 1 _ rfl
   have d2 : wr.cell? ⟨b, o + k * 10 + 2, none⟩ = some (.int .u64 w1) := d 2 _ rfl
   have d3 : wr.cell? ⟨b, o + k * 10 + 3, none⟩ = some (.int .u64 w2) := d 3 _ rfl
   have d4 : wr.cell? ⟨b, o + k * 10 + 4, none⟩ = some (.int .u64 w3) := d 4 _ rfl
   have d5 : wr.cell? ⟨b, o + k * 10 + 5, none⟩ = some (.int .i64 xa) := d 5 _ rfl
   have d6 : wr.cell? ⟨b, o + k * 10 + 6, none⟩ = some (.int .i64 xb) := d 6 _ rfl
   have d7 : wr.cell? ⟨b, o + k * 10 + 7, none⟩ = some (.int .i64 m) := d 7 _ rfl
   have d8 : wr.cell? ⟨b, o + k * 10 + 8, none⟩ = some (.int .i64 M) := d 8 _ rfl
   have d9 : wr.cell? ⟨b, o + k * 10 + 9, none⟩ = some (.int .i64 xn) := d 9 _ rfl
   clear d hw hxk
   have IN := Lib.hid fun w => refs1_c kd w0 w1 w2 w3 xa xb m M xn w
   by_cases h8 : kd = 8
   ·subst h8
    have HY : anyRef xs n := ⟨k, _, hlt, HA.out, rfl⟩
    have HY := Lib.hid HY
    clear HA HG
    go_wp2_with (go_at_call 21; refine (IN.out _).mono ?_; rintro e w1 ⟨rfl, hB1⟩)
    go_ret
    exact ⟨⟨k, rfl, by omega, by omega, fun _ => HY.out, fun _ => by omega⟩, hB.trans (hB1.mono hB.size)⟩
   ·have z8 : (kd == 8) = false := by rw [beq_eq_false_iff_ne]; exact h8
    rw [z8] at IN
    have HY : ¬ anyRef xs (k + 1) := fun ⟨j, x, hj, hx, h⟩ => by
     by_cases e : j = k
     ·subst e; rw [HA.out] at hx; cases hx; exact h8 h
     ·exact HG.out ⟨j, x, by omega, hx, h⟩
    have HY := Lib.hid HY
    clear HA HG
    go_wp2_with (go_at_call 21; refine (IN.out _).mono ?_; rintro e w1 ⟨rfl, hB1⟩)
    go_roundw
    case rel => exact ⟨k + 1, by omega, by simp, HY.out, hB.trans (hB1.mono hB.size)⟩
    case measure => (simp [RowKit.intOf]) <;> omega
  ·obtain rfl : k = n := by omega
   go_wp2
   go_ret
   exact ⟨⟨-1, rfl, by omega, by omega, fun h => by omega, fun h => absurd h HG.out⟩, hB⟩
end Go.Proofs.YtkcbknfhckomcaaGreatDoor
namespace Go.Proofs.YtkcbknfhckomcaaGreatDoor
open Go.RowKit
theorem containsref_c (b o n cap : Nat) (xs : List Nd) (hlen : xs.length = n) (h1 : 1 ≤ n) (hn : n ≤ 120) (r : Bool) (hr : r = true ↔ anyRef xs n) (w : World) (hx : NodesAt w b o xs) :
  Calls Tryz.prog 20 #[.slice (some ⟨b, o, none⟩) n cap, .func (.func 21) #[] #[]] w fun e w' => e = .returned (.bool r) ∧ Below w.heap.size w w' := by
 have IX := Lib.hid (indexref_c b o n cap xs hlen h1 hn w hx)
 have HR := Lib.hid hr
 clear hr
 go_enter Tryz.func20, Tryz.ntmps20
 go_wp2_with fail
 refine IX.out.mono ?_
 rintro e w1 ⟨⟨z, rfl, hz1, hz2, hz⟩, hB⟩
 by_cases h0 : 0 ≤ z
 ·obtain rfl : r = true := HR.out.2 (hz.1 h0)
  have hd : decide (0 ≤ z) = true := by simpa using h0
  clear hz HR
  go_wp2
  go_ret
  exact ⟨rfl, hB⟩
 ·obtain rfl : r = false := by
   cases r
   ·rfl
   ·exact absurd (hz.2 (HR.out.1 rfl)) h0
  have hd : decide (0 ≤ z) = false := by simpa using h0
  clear hz HR
  go_wp2
  go_ret
  exact ⟨rfl, hB⟩
theorem refs_in (b o n cap : Nat) (xs : List Nd) (hlen : xs.length = n) (h1 : 1 ≤ n) (hn : n ≤ 120) (hfit : ∀ (i : Nat) (x : Nd), xs[i]? = some x → x.Fits) (hp : ∃ t, IsPat xs t) (r : Bool) (hr : r = true ↔ anyRef xs n) (w : World) (hx : NodesAt w b o xs) :
  Calls Tryz.prog 10 #[.slice (some ⟨b, o, none⟩) n cap] w fun e w' => e = .returned (.bool r) ∧ Below w.heap.size w w' := by
 have HM := Lib.hid fun w hx => may_in b o n cap xs hlen h1 hn hfit true ⟨fun _ => hp, fun _ => rfl⟩ w hx
 have HC := Lib.hid fun w hx => containsref_c b o n cap xs hlen h1 hn r hr w hx
 clear hp hfit hr
 go_enter Tryz.func10, Tryz.ntmps10
 go_wp2_with fail
 refine (HM.out _ hx).mono ?_
 rintro e w1 ⟨rfl, hB1⟩
 have hx1 := hx.below hB1 hx.lt
 go_wp2_with fail
 refine (HC.out _ hx1).mono ?_
 rintro e w2 ⟨rfl, hB2⟩
 go_wp2
 go_ret
 exact ⟨rfl, hB1.trans (hB2.mono hB1.size)⟩
end Go.Proofs.YtkcbknfhckomcaaGreatDoor
