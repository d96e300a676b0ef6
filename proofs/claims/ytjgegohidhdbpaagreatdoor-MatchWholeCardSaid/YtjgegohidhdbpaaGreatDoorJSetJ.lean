/- May. -/
import Derived.Test.YtjgegohidhdbpaaGreatDoorJRxU
import Derived.Test.YtjgegohidhdbpaaGreatDoorJRxA
import Derived.Deep.WholeRow
import Derived.ChangeKeysEq
import Derived.OwnWalk
open Go.Proofs.Tryz
set_option linter.unusedVariables false
set_option linter.unusedSimpArgs false
set_option maxRecDepth 100000
set_option maxHeartbeats 40000000
namespace Go.Proofs.YtjgegohidhdbpaaGreatDoor
open Go.RowKit
theorem Y1 {xs : List Nd} {n : Nat} (qq : xs.length = n) (Qp : ∀ (i : Nat) (x : Nd), xs[i]? = some x → qY x = true) (hw : T.Whole (fun i => xs[i]?) n) (i : Nat) (x : Nd) (hx : xs[i]? = some x) : pIn n x := by
 have hi : i < n := by have := (List.getElem?_eq_some_iff.1 hx).1; omega
 obtain ⟨c, hc⟩ := hw.inner hi
 refine ⟨fun hk => ?_, fun hk => ?_⟩
 ·obtain ⟨q, h1, h2, h3, h4, h5, h6⟩ := (T.ends_two (l := fun i => xs[i]?) hx (Qp i x hx) hk).1 hc
  have := h3.le
  exact ⟨q - 1, i - 1, by omega, by omega, by omega, by omega⟩
 ·rcases hk with hk | hk
  ·obtain ⟨h1, h2, h3⟩ := (T.ends_times (l := fun i => xs[i]?) hx (Qp i x hx) hk).1 hc
   exact ⟨i - 1, by omega, by omega⟩
  ·obtain ⟨h1, h2, h3⟩ := (T.ends_group (l := fun i => xs[i]?) hx (Qp i x hx) hk).1 hc
   exact ⟨i - 1, by omega, by omega⟩
theorem qN.whole {xs : List Nd} {t : T} (h : qN xs t) (h1 : 1 ≤ xs.length) : T.Whole (fun i => xs[i]?) xs.length := ⟨t, h.1, h.2.1, by have := h.2.2.1; omega⟩
theorem qN.uniq {xs : List Nd} {t t' : T} (h : qN xs t) (ho : t'.Ok) (ha : T.At (fun i => xs[i]?) t' 0) (hs : t'.size = xs.length) : t = t' :=
 (T.uniq _ t t' 0 0 h.1 ho h.2.1 ha (by rw [h.2.2.1, hs])).1
theorem G5 (p : Option Addr) (n cap : Nat) (hn : n < 1 ∨ 120 < n) (hs : n < 9223372036854775807) (w : World) :
  Calls prog 32 #[.slice p n cap] w fun e w' => e = .returned (.bool false) ∧ Below w.heap.size w w' := by
 rcases hn with hn | hn
 ·obtain rfl : n = 0 := by omega
  go_enter func32, ntmps32
  go_wp2
  go_ret
  exact ⟨rfl, Below.refl _ _⟩
 ·have h1 : ¬ ((n : Int) < 1) := by omega
  go_enter func32, ntmps32
  go_wp2
  go_ret
  exact ⟨rfl, Below.refl _ _⟩
theorem Kw (b o n cap : Nat) (xs : List Nd) (qq : xs.length = n) (h1 : 1 ≤ n) (hn : n ≤ 120) (qM : ∀ (i : Nat) (x : Nd), xs[i]? = some x → x.Fits) (r : Bool) (hr : r = true ↔ ∃ t, qN xs t) (w : World) (hx : qn w b o xs) :
  Calls prog 32 #[.slice (some ⟨b, o, none⟩) n cap] w fun e w' => e = .returned (.bool r) ∧ Below w.heap.size w w' := by
 have HR := ξ hr; have qcJ := ξ qM
 clear hr qM
 have lb := hx.lt
 go_enter func32, ntmps32
 go_wp2
 go_loopw [15] (fun i wr => ∃ k : Nat, k ≤ n ∧ i = .int .i64 k ∧ (∀ (j : Nat) (x : Nd), j < k → xs[j]? = some x → qY x = true) ∧ Below w.heap.size w wr) (fun i _ => n - (RowKit.intOf i).toNat)
 case atStart =>
  exact ⟨0, by omega, rfl, fun j x hj => by omega, Below.refl _ _⟩
 case round =>
  obtain ⟨k, hk, rfl, hg, hB⟩ := hrel
  have HG := ξ hg
  clear hg
  by_cases zb : k < n
  ·obtain ⟨x, yI⟩ : ∃ x, xs[k]? = some x := ⟨xs[k]'(by omega), List.getElem?_eq_getElem (by omega)⟩
   have yN := qcJ.out k x yI
   have gl : qY x = true → ∀ (j : Nat) (y : Nd), j < k + 1 → xs[j]? = some y → qY y = true := fun h j y hj hy => by
    by_cases e : j = k
    ·subst e; rw [yI] at hy; cases hy; exact h
    ·exact HG.out j y (by omega) hy
   have gf : qY x = false → r = false := fun h => by
    cases r
    ·rfl
    ·obtain ⟨t, ht⟩ := HR.out.1 rfl
     have := ht.2.2.2.2.1 k x yI
     rw [h] at this; cases this
   have GL := ξ gl; have GF := ξ gf
   clear gl gf HG qcJ
   have hw := hx.below hB hx.lt
   have d := hw.cell k x yI
   have lB := hB.size
   obtain ⟨kd, w0, w1, w2, w3, xa, xb, m, M, xn⟩ := x
   have d_ := zB d
   clear d hw yI
   have IN := ξ fun w => qcH kd w0 w1 w2 w3 xa xb m M xn yN w
   have bA : Below w.heap.size w (wr.alloc (.cells #[.int .i64 kd, .int .u64 w0, .int .u64 w1, .int .u64 w2, .int .u64 w3, .int .i64 xa, .int .i64 xb, .int .i64 m, .int .i64 M, .int .i64 xn] 57)) := hB.alloc (by omega) _
   cases hv : qY ⟨kd, w0, w1, w2, w3, xa, xb, m, M, xn⟩
   ·rw [hv] at IN
    obtain rfl : r = false := GF.out hv
    clear GL GF hv
    go_wp2_with (go_at_call 54; refine (IN.out _).mono ?_; rintro e w1 ⟨rfl, qr⟩)
    go_ret
    exact ⟨rfl, bA.trans (qr.mono bA.size)⟩
   ·rw [hv] at IN
    have G2 := ξ (GL.out hv)
    clear GL GF hv
    go_wp2_with (go_at_call 54; refine (IN.out _).mono ?_; rintro e w1 ⟨rfl, qr⟩)
    go_roundw
    case rel => exact ⟨k + 1, by omega, by simp, G2.out, bA.trans (qr.mono bA.size)⟩
    case measure => (simp [RowKit.intOf]) <;> omega
  ·obtain rfl : k = n := by omega
   have Qp : ∀ (i : Nat) (x : Nd), xs[i]? = some x → qY x = true := fun i x hi => HG.out i x (by have := (List.getElem?_eq_some_iff.1 hi).1; omega) hi
   have hX := hx.below hB lb
   by_cases hW : T.Whole (fun i => xs[i]?) k
   ·have VJ := Y1 qq Qp hW
    obtain ⟨t, ht, Wj, kR⟩ := hW
    have kR : t.size = k := by omega
    have IO := ξ fun w hx => V3 b o k cap xs qq h1 hn Qp true ⟨fun _ => ⟨t, ht, Wj, by omega⟩, fun _ => rfl⟩ w hx
    by_cases hP : ∀ (i : Nat) (x : Nd), xs[i]? = some x → Zj xs x
    ·have IP := ξ fun w hx => JD b o k cap xs qq h1 hn Qp VJ true ⟨fun _ => hP, fun _ => rfl⟩ w hx
     have IA := ξ fun w hx => VH b o k cap xs qq h1 hn t ht Wj kR w hx
     obtain rfl : r = (num t (0, fun _ => false)).isSome := by
      rw [Bool.eq_iff_iff, HR.out]
      constructor
      ·rintro ⟨t', h'⟩
       have := h'.uniq ht Wj (by omega)
       subst this
       exact h'.2.2.2.2.2.2
      ·exact fun h => ⟨t, ht, Wj, by omega, by omega, Qp, hP, h⟩
     clear HR HG qcJ Qp VJ hP
     go_wp2_with fail
     refine (IO.out _ hX).mono ?_
     rintro e w1 ⟨rfl, qr⟩
     have hX1 := hX.below qr hX.lt
     have b1 := hB.trans (qr.mono hB.size)
     go_wp2_with fail
     refine (IP.out _ hX1).mono ?_
     rintro e w2 ⟨rfl, zj⟩
     have hX2 := hX1.below zj hX1.lt
     have b2 := b1.trans (zj.mono b1.size)
     go_wp2_with fail
     refine (IA.out _ hX2).mono ?_
     rintro e w3 ⟨rfl, qQ⟩
     have b3 := b2.trans (qQ.mono b2.size)
     go_wp2
     go_ret
     exact ⟨rfl, b3⟩
    ·have IP := ξ fun w hx => JD b o k cap xs qq h1 hn Qp VJ false ⟨fun h => absurd h (by decide), fun h => absurd h hP⟩ w hx
     obtain rfl : r = false := by
      cases r
      ·rfl
      ·obtain ⟨t', h'⟩ := HR.out.1 rfl
       exact absurd h'.2.2.2.2.2.1 hP
     clear HR HG qcJ Qp VJ hP
     go_wp2_with fail
     refine (IO.out _ hX).mono ?_
     rintro e w1 ⟨rfl, qr⟩
     have hX1 := hX.below qr hX.lt
     have b1 := hB.trans (qr.mono hB.size)
     go_wp2_with fail
     refine (IP.out _ hX1).mono ?_
     rintro e w2 ⟨rfl, zj⟩
     have hX2 := hX1.below zj hX1.lt
     have b2 := b1.trans (zj.mono b1.size)
     go_wp2
     go_ret
     exact ⟨rfl, b2⟩
   ·have IO := ξ fun w hx => V3 b o k cap xs qq h1 hn Qp false ⟨fun h => absurd h (by decide), fun h => absurd h hW⟩ w hx
    obtain rfl : r = false := by
     cases r
     ·rfl
     ·obtain ⟨t', h'⟩ := HR.out.1 rfl
      exact absurd (qq ▸ h'.whole (by omega)) hW
    clear HR HG qcJ Qp
    go_wp2_with (go_at_call 55; refine (IO.out _ hX).mono ?_; rintro e w1 ⟨rfl, qr⟩)
    go_ret
    exact ⟨rfl, hB.trans (qr.mono hB.size)⟩
theorem qkD (p : Option Addr) (n cap : Nat) (xs : List Nd) (qq : xs.length = n) (hs : n < 9223372036854775807) (hp : 1 ≤ n → ∃ b o, p = some ⟨b, o, none⟩) (qM : ∀ (i : Nat) (x : Nd), xs[i]? = some x → x.Fits) (r : Bool) (hr : r = true ↔ ∃ t, qN xs t) (w : World)
  (hx : ∀ b o, p = some ⟨b, o, none⟩ → qn w b o xs) :
  Calls prog 32 #[.slice p n cap] w fun e w' => e = .returned (.bool r) ∧ Below w.heap.size w w' := by
 by_cases hn : 1 ≤ n ∧ n ≤ 120
 ·obtain ⟨b, o, rfl⟩ := hp hn.1
  exact Kw b o n cap xs qq hn.1 hn.2 qM r hr w (hx b o rfl)
 ·obtain rfl : r = false := by
   cases r
   ·rfl
   ·obtain ⟨t, ht⟩ := hr.1 rfl
    have h1 := ht.2.2.1
    have h2 := ht.2.2.2.1
    have h3 := t.size_pos
    omega
  exact G5 p n cap (by omega) hs w
structure kS (w : World) (p : Option Addr) (n : Nat) (xs : List Nd) : Prop where
 len : xs.length = n
 small : n < 9223372036854775807
 ptr : 1 ≤ n → ∃ b o, p = some ⟨b, o, none⟩
 at' : 1 ≤ n → ∀ b o, p = some ⟨b, o, none⟩ → qn w b o xs
 fits : ∀ (i : Nat) (x : Nd), xs[i]? = some x → x.Fits
theorem kS.below {w w' : World} {p : Option Addr} {n : Nat} {xs : List Nd} (h : kS w p n xs) (hB : Below w.heap.size w w') : kS w' p n xs :=
 ⟨h.len, h.small, h.ptr, fun h1 b o e => (h.at' h1 b o e).below hB (h.at' h1 b o e).lt, h.fits⟩
theorem qcg (p : Option Addr) (n cap : Nat) (xs : List Nd) (r : Bool) (hr : r = true ↔ ∃ t, qN xs t) (w : World) (h : kS w p n xs) :
  Calls prog 32 #[.slice p n cap] w fun e w' => e = .returned (.bool r) ∧ Below w.heap.size w w' := by
 by_cases hn : 1 ≤ n
 ·obtain ⟨b, o, rfl⟩ := h.ptr hn
  exact qkD _ n cap xs h.len h.small h.ptr h.fits r hr w fun b' o' e => h.at' hn b' o' e
 ·obtain rfl : r = false := by
   cases r
   ·rfl
   ·obtain ⟨t, ht⟩ := hr.1 rfl
    have h1 := ht.2.2.1
    have h3 := t.size_pos
    have := h.len
    omega
  exact G5 p n cap (by omega) h.small w
def UN (xs : List Nd) : Nat → Nat
 | 0 => 0
 | k + 1 => UN xs k + (match xs[k]? with | some x => if x.kind = 7 then 1 else 0 | none => 0)
def jN (xs : List Nd) (k : Nat) : Prop := ∃ (j : Nat) (x : Nd), j < k ∧ xs[j]? = some x ∧ x.kind = 8
theorem qfA (kd : Int) (w0 w1 w2 w3 : Nat) (xa xb m M xn : Int) (w : World) :
  Calls prog 98 #[.agg #[.int .i64 kd, .int .u64 w0, .int .u64 w1, .int .u64 w2, .int .u64 w3, .int .i64 xa, .int .i64 xb, .int .i64 m, .int .i64 M, .int .i64 xn]] w fun e w' => e = .returned (.bool (kd == 8)) ∧ Below w.heap.size w w' := by
 go_enter func98, ntmps98
 go_wp2
 go_ret
 exact ⟨rfl, (Below.refl _ w).alloc (Nat.le_refl _) _⟩
theorem UO (b o n cap : Nat) (xs : List Nd) (qq : xs.length = n) (h1 : 1 ≤ n) (hn : n ≤ 120) (w : World) (hx : qn w b o xs) :
  Calls prog 123 #[.slice (some ⟨b, o, none⟩) n cap, .func (.func 98) #[] #[]] w fun e w' => (∃ r : Int, e = .returned (.int .i64 r) ∧ -1 ≤ r ∧ r ≤ 120 ∧ (0 ≤ r ↔ jN xs n)) ∧ Below w.heap.size w w' := by
 have lb := hx.lt
 go_enter func123, ntmps123
 go_wp2
 go_loopw [8] (fun i wr => ∃ k : Nat, k ≤ n ∧ i = .int .i64 k ∧ ¬ jN xs k ∧ Below w.heap.size w wr) (fun i _ => n - (RowKit.intOf i).toNat)
 case atStart => exact ⟨0, by omega, rfl, fun ⟨j, x, hj, _⟩ => by omega, Below.refl _ _⟩
 case round =>
  obtain ⟨k, hk, rfl, hg, hB⟩ := hrel
  have HG := ξ hg
  clear hg
  by_cases zb : k < n
  ·obtain ⟨x, yI⟩ : ∃ x, xs[k]? = some x := ⟨xs[k]'(by omega), List.getElem?_eq_getElem (by omega)⟩
   have hw := hx.below hB hx.lt
   have d := hw.cell k x yI
   have lB := hB.size
   have HA := ξ yI
   obtain ⟨kd, w0, w1, w2, w3, xa, xb, m, M, xn⟩ := x
   have d_ := zB d
   clear d hw yI
   have IN := ξ fun w => qfA kd w0 w1 w2 w3 xa xb m M xn w
   by_cases h8 : kd = 8
   ·subst h8
    have HY : jN xs n := ⟨k, _, zb, HA.out, rfl⟩
    have HY := ξ HY
    clear HA HG
    go_wp2_with (go_at_call 98; refine (IN.out _).mono ?_; rintro e w1 ⟨rfl, qr⟩)
    go_ret
    exact ⟨⟨k, rfl, by omega, by omega, fun _ => HY.out, fun _ => by omega⟩, hB.trans (qr.mono hB.size)⟩
   ·have z8 : (kd == 8) = false := by rw [beq_eq_false_iff_ne]; exact h8
    rw [z8] at IN
    have HY : ¬ jN xs (k + 1) := fun ⟨j, x, hj, hx, h⟩ => by
     by_cases e : j = k
     ·subst e; rw [HA.out] at hx; cases hx; exact h8 h
     ·exact HG.out ⟨j, x, by omega, hx, h⟩
    have HY := ξ HY
    clear HA HG
    go_wp2_with (go_at_call 98; refine (IN.out _).mono ?_; rintro e w1 ⟨rfl, qr⟩)
    go_roundw
    case rel => exact ⟨k + 1, by omega, by simp, HY.out, hB.trans (qr.mono hB.size)⟩
    case measure => (simp [RowKit.intOf]) <;> omega
  ·obtain rfl : k = n := by omega
   go_wp2
   go_ret
   exact ⟨⟨-1, rfl, by omega, by omega, fun h => by omega, fun h => absurd h HG.out⟩, hB⟩
theorem VK (b o n cap : Nat) (xs : List Nd) (qq : xs.length = n) (h1 : 1 ≤ n) (hn : n ≤ 120) (r : Bool) (hr : r = true ↔ jN xs n) (w : World) (hx : qn w b o xs) :
  Calls prog 97 #[.slice (some ⟨b, o, none⟩) n cap, .func (.func 98) #[] #[]] w fun e w' => e = .returned (.bool r) ∧ Below w.heap.size w w' := by
 have IX := ξ (UO b o n cap xs qq h1 hn w hx)
 have HR := ξ hr
 clear hr
 go_enter func97, ntmps97
 go_wp2_with fail
 refine IX.out.mono ?_
 rintro e w1 ⟨⟨z, rfl, kF, vv, hz⟩, hB⟩
 by_cases h0 : 0 ≤ z
 ·obtain rfl : r = true := HR.out.2 (hz.1 h0)
  have hd : decide (0 ≤ z) = true := by simpa using h0
  clear hz HR
  go_wp2
  go_ret
  exact ⟨rfl, hB⟩
 ·obtain rfl : r = false := by
   cases r
   ·rfl
   ·exact absurd (hz.2 (HR.out.1 rfl)) h0
  have hd : decide (0 ≤ z) = false := by simpa using h0
  clear hz HR
  go_wp2
  go_ret
  exact ⟨rfl, hB⟩
theorem G6 (b o n cap : Nat) (xs : List Nd) (qq : xs.length = n) (h1 : 1 ≤ n) (hn : n ≤ 120) (qM : ∀ (i : Nat) (x : Nd), xs[i]? = some x → x.Fits) (hp : ∃ t, qN xs t) (r : Bool) (hr : r = true ↔ jN xs n) (w : World) (hx : qn w b o xs) :
  Calls prog 59 #[.slice (some ⟨b, o, none⟩) n cap] w fun e w' => e = .returned (.bool r) ∧ Below w.heap.size w w' := by
 have HM := ξ fun w hx => Kw b o n cap xs qq h1 hn qM true ⟨fun _ => hp, fun _ => rfl⟩ w hx
 have HC := ξ fun w hx => VK b o n cap xs qq h1 hn r hr w hx
 clear hp qM hr
 go_enter func59, ntmps59
 go_wp2_with fail
 refine (HM.out _ hx).mono ?_
 rintro e w1 ⟨rfl, qr⟩
 have hx1 := hx.below qr hx.lt
 go_wp2_with fail
 refine (HC.out _ hx1).mono ?_
 rintro e w2 ⟨rfl, zj⟩
 go_wp2
 go_ret
 exact ⟨rfl, qr.trans (zj.mono qr.size)⟩
theorem qcK : (Tryz.prog.info? 57).map (fun i => (i.zero, i.size, i.bytes)) = some (some (.agg #[.int .i64 0, .int .u64 0, .int .u64 0, .int .u64 0, .int .u64 0, .int .i64 0, .int .i64 0, .int .i64 0, .int .i64 0, .int .i64 0]), 10, 80) := by kernel_rfl
def flat (xs : List Nd) : List Value := xs.flatMap fun x => x.cells.toList
theorem Wl : ∀ xs : List Nd, (flat xs).length = xs.length * 10
 | [] => rfl
 | x :: xs => by
  have := Wl xs
  simp only [flat, List.flatMap_cons, List.length_append, List.length_cons] at *
  have h : x.cells.toList.length = 10 := rfl
  omega
theorem Y2 : ∀ (xs : List Nd) (j : Nat), j < xs.length * 10 → ∃ (i r : Nat) (x : Nd), xs[i]? = some x ∧ r < 10 ∧ j = i * 10 + r ∧ (flat xs)[j]? = x.cells[r]?
 | [], j, h => by simp at h
 | x :: xs, j, h => by
  have hl : x.cells.toList.length = 10 := rfl
  by_cases hj : j < 10
  ·refine ⟨0, j, x, rfl, hj, by omega, ?_⟩
   simp only [flat, List.flatMap_cons]
   rw [List.getElem?_append_left (by omega)]
   simp
  ·obtain ⟨i, r, y, h1, h2, h3, h4⟩ := Y2 xs (j - 10) (by simp only [List.length_cons] at h; omega)
   refine ⟨i + 1, r, y, h1, h2, by omega, ?_⟩
   simp only [flat, List.flatMap_cons] at h4 ⊢
   rw [List.getElem?_append_right (by omega), hl]
   exact h4
theorem flat_get (xs : List Nd) (i r : Nat) (x : Nd) (hx : xs[i]? = some x) (hr : r < 10) : (flat xs)[i * 10 + r]? = x.cells[r]? := by
 have hi : i < xs.length := (List.getElem?_eq_some_iff.1 hx).1
 obtain ⟨i', r', y, h1, h2, h3, h4⟩ := Y2 xs (i * 10 + r) (by omega)
 obtain rfl : i' = i := by omega
 obtain rfl : r' = r := by omega
 rw [hx] at h1
 cases h1
 exact h4
structure NRow (w : World) (g n : Nat) (xs : List Nd) : Prop where
 row : ∃ cur, w.heap[g]? = some (.cells cur 57 (0, 0)) ∧ ∀ (i r : Nat) (x : Nd), xs[i]? = some x → r < 10 → cur[i * 10 + r]? = x.cells[r]?
theorem qfB (b o n cap : Nat) (xs : List Nd) (qq : xs.length = n) (h1 : 1 ≤ n) (hn : n ≤ 120) (w : World) (hx : qn w b o xs) :
  Calls prog 99 #[.slice (some ⟨b, o, none⟩) n cap] w fun e w' => (∃ g cap', e = .returned (.slice (some ⟨g, 0, none⟩) n cap') ∧ w.heap.size ≤ g ∧ NRow w' g n xs) ∧ Below w.heap.size w w' := by
 obtain ⟨i0, hi, QX, kF, vv⟩ := info_parts qcK
 have hq : ∀ (w : World) (a : Option Addr) (n c n' c' : Nat), (binOp .eql 22 (.slice a n c) (.slice none n' c')).run prog w = .ok (.bool a.isNone) w := fun w a n c n' c' => Lib.run_eql_slice_nil w _ _ a n c n' c' underlying22
 have hfl := Wl xs
 have qu : ∀ j u, (flat xs)[j]? = some u → (w.alloc (.cells #[] 57)).cell? ((⟨b, o, none⟩ : Addr).add j) = some u := fun j u hj => by
  obtain ⟨i, r, x, e1, e2, e3, e4⟩ := Y2 xs j (by have := (List.getElem?_eq_some_iff.1 hj).1; omega)
  rw [e4] at hj
  rw [Addr.add_lit]
  refine qa _ ?_
  have := hx.cell i x e1 r u hj
  rw [e3, ← Nat.add_assoc]; exact this
 have j6 : ∀ u ∈ flat xs, u.oneCell' = true := fun u hu => by
  simp only [flat, List.mem_flatMap] at hu
  obtain ⟨x, _, hx⟩ := hu
  simp [Nd.cells] at hx
  rcases hx with rfl | rfl | rfl | rfl | rfl | rfl | rfl | rfl | rfl | rfl <;> rfl
 go_enter func99, ntmps99
 go_wp2_with (at_builtin; refine wpList_append_own _ rfl _ _ 22 rfl w.heap.size 57 i0 (.agg #[.int .i64 0, .int .u64 0, .int .u64 0, .int .u64 0, .int .u64 0, .int .i64 0, .int .i64 0, .int .i64 0, .int .i64 0, .int .i64 0]) 10 80 underlying22 hi QX kF vv rfl (by decide) _ _ _ rfl (World.ownsRow_made w #[] 0 (Nat.le_refl _) (Nat.zero_le _) (by simp)) ⟨b, o, none⟩ n cap (flat xs) rfl ?qc1 ?qc2 ?qc3 ?qc4 ?qc5 ?qc6 ?_)
 case qc1 => rw [hfl, qq]
 case qc2 => exact qu
 case qc3 => exact j6
 case qc4 => unfold maxLen; omega
 case qc5 => omega
 case qc6 => simp
 intro v' w1 zq zM hnil
 go_wp2
 go_ret
 have hB : Below w.heap.size w w1 := ((Below.refl _ w).alloc (Nat.le_refl _) _).grown zM (by simp) (by intro k hk; simp [Value.ownBlock] at hk; omega)
 refine ⟨?_, hB⟩
 rcases zq.2 with ⟨_, h0⟩ | ⟨g, cap', cur, rfl, hg, hb, _, _, _, ht⟩
 ·omega
 ·refine ⟨g, cap', rfl, hg, ⟨cur, hb, fun i r x hx hr => ?_⟩⟩
  rw [← flat_get xs i r x hx hr]
  have hi : i < xs.length := (List.getElem?_eq_some_iff.1 hx).1
  have : (cur.toList.take (n * 10))[i * 10 + r]? = (flat xs)[i * 10 + r]? := by rw [ht]
  rw [List.getElem?_take_of_lt (by omega)] at this
  rw [← this]
  simp
def zP (f : Nat → Bool) : Array Value := ((List.range 256).map fun i => Value.bool (f i)).toArray
def bv (f : Nat → Bool) : Value := .agg (zP f)
theorem kt (f : Nat → Bool) : (zP f).size = 256 := by simp [zP]
theorem UP {f g : Nat → Bool} (h : ∀ i, i < 256 → f i = g i) : zP f = zP g := by
 unfold zP
 congr 1
 apply List.map_congr_left
 intro i hi
 rw [h i (by simpa using hi)]
theorem Ji (f : Nat → Bool) (j : Nat) (h : j < 256) : (zP f)[j]? = some (.bool (f j)) := by simp [zP, h]
theorem qcL (f : Nat → Bool) (j : Nat) (v : Bool) : (zP f).setIfInBounds j (.bool v) = zP (fun i => if i = j then v else f i) := by
 apply Array.ext_getElem?
 intro i
 rw [Array.getElem?_setIfInBounds]
 by_cases hi : i < 256
 ·rw [Ji _ i hi, Ji _ i hi, kt]
  by_cases e : j = i
  ·subst e; simp [hi]
  ·have e' : ¬ i = j := fun h => e h.symm
   simp [e, e']
 ·have h1 : (zP f)[i]? = none := Array.getElem?_eq_none (by rw [kt]; omega)
  have h2 : (zP fun k => if k = j then v else f k)[i]? = none := Array.getElem?_eq_none (by rw [kt]; omega)
  rw [h1, h2, kt]
  split <;> first | rfl | (split <;> first | rfl | omega)
theorem qcM (f : Nat → Bool) : (zP f).all (·.oneCell') = true := by
 simp [zP, Value.oneCell']
theorem qcN : (Tryz.prog.info? 149).map (fun i => (i.zero, i.size)) = some (some (.agg (zP fun _ => false)), 256) := by kernel_rfl
structure Row (W : World) (b : Nat) (f : Nat → Bool) : Prop where
 heap : W.heap[b]? = some (.cells (zP f) 149 (0, 0))
section
variable {W : World} {b : Nat} {f : Nat → Bool}
theorem Row.lt (h : Row W b f) : b < W.heap.size := (Array.getElem?_eq_some_iff.1 h.heap).1
theorem Row.cell (h : Row W b f) (j : Nat) (hj : j < 256) : W.cell? ⟨b, j, none⟩ = some (.bool (f j)) := by simp [World.cell?, h.heap, Ji f j hj]
theorem Row.fz (h : Row W b f) (j : Nat) : W.frozen? ⟨b, j, none⟩ = false := by simp [World.frozen?, h.heap]
theorem Row.below {B : Nat} {W' : World} (h : Row W b f) (hB : Below B W W') (hb : b < B) : Row W' b f := ⟨(hB.block b hb).trans h.heap⟩
theorem Row.alloc (h : Row W b f) (o : Obj) : Row (W.alloc o) b f := h.below (B := W.heap.size) ((Below.refl _ W).alloc (Nat.le_refl _) o) h.lt
theorem Row.set (h : Row W b f) (j : Nat) (v : Bool) : Row (W.setCell ⟨b, j, none⟩ (.bool v)) b (fun i => if i = j then v else f i) := ⟨by rw [heap_setCell_same _ b j _ _ _ h.heap, qcL]⟩
theorem Row.other (h : Row W b f) {p : Addr} (hp : b ≠ p.block) (u : Value) : Row (W.setCell p u) b f := ⟨(Below.heap_setCell W p u b hp).trans h.heap⟩
theorem Row.new (W : World) (f : Nat → Bool) : Row (W.alloc (.cells (zP f) 149)) W.heap.size f := ⟨by show (W.heap.push _)[W.heap.size]? = _; simp⟩
theorem Row.congr {g : Nat → Bool} (h : Row W b f) (e : ∀ i, i < 256 → f i = g i) : Row W b g := ⟨by rw [← UP e]; exact h.heap⟩
theorem UQ : (Tryz.prog.info? 149).map (·.size) = some 256 := (zero_of_info qcN).2
theorem Row.load (h : Row W b f) : (loadVar 149 ⟨b, 0, none⟩).run prog W = .ok (.agg (zP f)) W :=
 run_loadVar_row W b 149 149 (zP f) (0, 0) _ h.heap underlying149 rfl (by rw [UQ, kt])
theorem Row.loadAt (h : Row W b f) : (Instr.loadAt 149 (.pointer (some ⟨b, 0, none⟩))).run prog W = .ok (.agg (zP f)) W := by
 simp only [Instr.loadAt, Instr.sureAddr, Sem.run_bind, Sem.run_pure, Result.andThen]
 exact h.load
theorem Row.store (h : Row W b f) (g : Nat → Bool) : (storeVar 149 ⟨b, 0, none⟩ (.agg (zP g))).run prog W = .ok () (W.setRow b (zP g)) :=
 run_storeVar_row W b 149 149 (zP f) (zP g) h.heap (by rw [UQ, kt]) (by rw [kt, kt]) (qcM g)
theorem Row.storeAt (h : Row W b f) (g : Nat → Bool) : (Instr.storeAt 149 (.pointer (some ⟨b, 0, none⟩)) (.agg (zP g))).run prog W = .ok () (W.setRow b (zP g)) := by
 simp only [Instr.storeAt, Instr.sureAddr, Sem.run_bind, Sem.run_pure, Result.andThen]
 exact h.store g
theorem Row.storeCells (h : Row W b f) (g : Nat → Bool) : (storeCells ⟨b, 0, none⟩ (zP g).toList).run prog W = .ok () (W.setRow b (zP g)) := by
 have := h.store g
 have hs := UQ
 cases hq : Tryz.prog.info? 149 with
 | none => simp [hq] at hs
 | some i =>
  have h2 : i.size = 256 := by simpa [hq] using hs
  simpa [storeVar, sizeOf, typeInfo, hq, Value.cells, h2, kt] using this
theorem Row.put (h : Row W b f) (g : Nat → Bool) : Row (W.setRow b (zP g)) b g := ⟨by
 obtain ⟨zb, hk⟩ := Array.getElem?_eq_some_iff.1 h.heap
 show (W.heap.modify b _)[b]? = _
 rw [Array.getElem?_eq_getElem (by rw [Array.size_modify]; exact zb), Array.getElem_modify_self, hk]⟩
theorem Below.setRow {B : Nat} {a w : World} (h : Below B a w) {b : Nat} (hb : B ≤ b) (c : Array Value) : Below B a (w.setRow b c) :=
 h.trans ⟨rfl, rfl, rfl, by simp [World.setRow], fun k hk => by
  show (w.heap.modify b _)[k]? = _
  rw [Array.getElem?_modify, if_neg (by omega)]⟩
theorem wp_load_row {op : Oper} {a : Act} {K : Act → World → Prop} {Q : Exit → Act → World → Prop} {x : Operand} (h : Row W b f) (ho : op.op = .load 149 x) (hx : a.eval x = .pointer (some ⟨b, 0, none⟩))
  (hK : K (a.put op.dst (.agg (zP f))) W) : op.wp prog a W K Q := by
 unfold Oper.wp execOp
 simp only [ho, hx, h.loadAt, Sem.run_bind, Sem.run_pure, Result.andThen_ok]
 exact hK
end
theorem Wm (w : World) : (storeCells ⟨w.heap.size + 1, 0, none⟩ (zP fun _ => false).toList).run prog ((w.alloc (.cells (zP fun _ => false) 149)).alloc (.cells (zP fun _ => false) 149)) = .ok () ((w.alloc (.cells (zP fun _ => false) 149)).alloc (.cells (zP fun _ => false) 149)) := by
 have := (Row.new (w.alloc (.cells (zP fun _ => false) 149)) (fun _ => false)).storeCells (fun _ => false)
 rw [World.setRow_alloc_new, World.size_alloc] at this
 exact this
def wk (f : Nat → Bool) (m k : Nat) : Nat := wd f m / 2 ^ (min 64 (k - 64 * m))
theorem Jj (f : Nat → Bool) (m : Nat) : wk f m 0 = wd f m := by simp [wk]
theorem jc (f : Nat → Bool) (m i : Nat) (h : m ≠ i / 64) : wk f m (i + 1) = wk f m i := by
 unfold wk
 congr 2
 rcases Nat.lt_or_gt_of_ne h with h1 | h1
 ·have : 64 * m + 64 ≤ i := by omega
  omega
 ·have : i + 1 ≤ 64 * m := by omega
  omega
theorem G7 (f : Nat → Bool) (i : Nat) : wk f (i / 64) i = 2 * wk f (i / 64) (i + 1) + (f i).toNat := by
 unfold wk
 have e1 : min 64 (i - 64 * (i / 64)) = i % 64 := by omega
 have e2 : min 64 (i + 1 - 64 * (i / 64)) = i % 64 + 1 := by omega
 have hb := Uv f (i / 64) (i % 64) (by omega)
 rw [show 64 * (i / 64) + i % 64 = i by omega] at hb
 rw [e1, e2, ← hb, Nat.pow_succ, ← Nat.div_div_eq_div_mul]
 omega
theorem G8 (f : Nat → Bool) (m k : Nat) : wk f m k < 18446744073709551616 := Nat.lt_of_le_of_lt (Nat.div_le_self _ _) (zQ f m)
theorem Y3 (w : World) (o : Obj) : (storeCells ⟨w.heap.size + 1 + 1, 0, none⟩ (zP fun _ => false).toList).run prog (((w.alloc o).alloc (.cells (zP fun _ => false) 149)).alloc (.cells (zP fun _ => false) 149)) = .ok () (((w.alloc o).alloc (.cells (zP fun _ => false) 149)).alloc (.cells (zP fun _ => false) 149)) := by
 have := Wm (w.alloc o)
 rwa [World.size_alloc] at this
theorem qfC (f : Nat → Bool) (i : Nat) : wk f (i / 64) i / 2 = wk f (i / 64) (i + 1) := by
 have := G7 f i
 cases hv : f i <;> rw [hv] at this <;> simp at this <;> omega
theorem qh7 (f : Nat → Bool) (i : Nat) : wk f (i / 64) i % 2 = (f i).toNat := by
 have := G7 f i
 cases hv : f i <;> rw [hv] at this <;> simp at this <;> simp <;> omega
theorem G9 (f : Nat → Bool) (w : World) :
  Calls prog 108 #[sv f] w fun e w' => e = .returned (bv f) ∧ Below w.heap.size w w' := by
 obtain ⟨hz, kR⟩ := zero_of_info (P := prog) qcN
 have hst0 := Y3 w (.cells #[.int .u64 (wd f 0), .int .u64 (wd f 1), .int .u64 (wd f 2), .int .u64 (wd f 3)] 54)
 unfold bv sv
 go_enter func108, ntmps108
 go_wp2
 clear hst0
 go_loopw [4] (fun i wr => ∃ k : Nat, k ≤ 256 ∧ i = .int .i64 k ∧ Four wr w.heap.size 54 (.int .u64 (wk f 0 k)) (.int .u64 (wk f 1 k)) (.int .u64 (wk f 2 k)) (.int .u64 (wk f 3 k)) ∧ Row wr (w.heap.size + 1) (fun _ => false) ∧ Row wr (w.heap.size + 1 + 1) (fun j => decide (j < k) && f j) ∧ Below w.heap.size w wr) (fun i _ => 256 - (RowKit.intOf i).toNat)
 case atStart =>
  refine ⟨0, by omega, rfl, ?_, ?_, ?_, (((Below.refl _ w).alloc (Nat.le_refl _) _).alloc (by simp) _).alloc (by simp; omega) _⟩
  ·rw [Jj, Jj, Jj, Jj]
   exact ((Four.new w _ _ _ _ _).alloc _).alloc _
  ·have := Row.new (w.alloc (.cells #[.int .u64 (wd f 0), .int .u64 (wd f 1), .int .u64 (wd f 2), .int .u64 (wd f 3)] 54)) (fun _ => false)
   rw [World.size_alloc] at this
   exact this.alloc _
  ·have := Row.new ((w.alloc (.cells #[.int .u64 (wd f 0), .int .u64 (wd f 1), .int .u64 (wd f 2), .int .u64 (wd f 3)] 54)).alloc (.cells (zP fun _ => false) 149)) (fun _ => false)
   rw [World.size_alloc, World.size_alloc] at this
   exact this.congr fun i _ => by simp
 case round =>
  obtain ⟨i, hk, rfl, h2, h0, h1, hB⟩ := hrel
  by_cases zb : i < 256
  ·have hc := h1.cell i zb
   have hcf := h1.fz i
   have ho := qh7 f i
   have hh := qfC f i
   have KD : ∀ j, j < 256 → (if j = i then f i else (decide (j < i) && f j)) = (decide (j < i + 1) && f j) := fun j _ => by
    by_cases e : j = i
    ·subst e; simp
    ·have e2 : decide (j < i + 1) = decide (j < i) := decide_eq_decide.2 (by omega)
     simp [e, e2]
   have HF := ξ KD
   clear KD
   rcases (by omega : i / 64 = 0 ∨ i / 64 = 1 ∨ i / 64 = 2 ∨ i / 64 = 3) with hd | hd | hd | hd
   ·rw [hd] at ho hh
    have hb := G8 f 0 i
    have qh8 : (i : Int) / 64 = 0 := by omega
    have e := h2.c0
    have ef := h2.fz 0
    have hv : ((wk f 0 i : Int) % 2 == 1) = f i := by
     cases XI : f i <;> rw [XI] at ho <;> simp at ho <;> simp <;> omega
    have hq : (wk f 0 i : Int) / 2 = (wk f 0 (i + 1) : Int) := by omega
    have GP := ξ (jc f 1 i (by omega))
    have Qm := ξ (jc f 2 i (by omega))
    have JE := ξ (jc f 3 i (by omega))
    clear ho hh hd
    go_wp2
    go_roundw
    case rel =>
     have q := (h2.other (p := ⟨w.heap.size + 1 + 1, i, none⟩) (by show w.heap.size ≠ w.heap.size + 1 + 1; omega) (.bool (f i))).s0 (.int .u64 (wk f 0 (i + 1)))
     rw [← GP.out, ← Qm.out, ← JE.out] at q
     exact ⟨i + 1, by omega, by simp, q, (h0.other (p := ⟨w.heap.size + 1 + 1, i, none⟩) (by show w.heap.size + 1 ≠ w.heap.size + 1 + 1; omega) _).other (p := ⟨w.heap.size, 0, none⟩) (by show w.heap.size + 1 ≠ w.heap.size; omega) _,
      ((h1.set i (f i)).congr HF.out).other (p := ⟨w.heap.size, 0, none⟩) (by show w.heap.size + 1 + 1 ≠ w.heap.size; omega) _, (hB.setCell (p := ⟨w.heap.size + 1 + 1, i, none⟩) (by show w.heap.size ≤ w.heap.size + 1 + 1; omega) _).setCell (p := ⟨w.heap.size, 0, none⟩) (Nat.le_refl _) _⟩
    case measure => (simp [RowKit.intOf]) <;> omega
   ·rw [hd] at ho hh
    have hb := G8 f 1 i
    have qh8 : (i : Int) / 64 = 1 := by omega
    have e := h2.c1
    have ef := h2.fz 1
    have hv : ((wk f 1 i : Int) % 2 == 1) = f i := by
     cases XI : f i <;> rw [XI] at ho <;> simp at ho <;> simp <;> omega
    have hq : (wk f 1 i : Int) / 2 = (wk f 1 (i + 1) : Int) := by omega
    have hs0 := ξ (jc f 0 i (by omega))
    have Qm := ξ (jc f 2 i (by omega))
    have JE := ξ (jc f 3 i (by omega))
    clear ho hh hd
    go_wp2
    go_roundw
    case rel =>
     have q := (h2.other (p := ⟨w.heap.size + 1 + 1, i, none⟩) (by show w.heap.size ≠ w.heap.size + 1 + 1; omega) (.bool (f i))).s1 (.int .u64 (wk f 1 (i + 1)))
     rw [← hs0.out, ← Qm.out, ← JE.out] at q
     exact ⟨i + 1, by omega, by simp, q, (h0.other (p := ⟨w.heap.size + 1 + 1, i, none⟩) (by show w.heap.size + 1 ≠ w.heap.size + 1 + 1; omega) _).other (p := ⟨w.heap.size, 1, none⟩) (by show w.heap.size + 1 ≠ w.heap.size; omega) _,
      ((h1.set i (f i)).congr HF.out).other (p := ⟨w.heap.size, 1, none⟩) (by show w.heap.size + 1 + 1 ≠ w.heap.size; omega) _, (hB.setCell (p := ⟨w.heap.size + 1 + 1, i, none⟩) (by show w.heap.size ≤ w.heap.size + 1 + 1; omega) _).setCell (p := ⟨w.heap.size, 1, none⟩) (Nat.le_refl _) _⟩
    case measure => (simp [RowKit.intOf]) <;> omega
   ·rw [hd] at ho hh
    have hb := G8 f 2 i
    have qh8 : (i : Int) / 64 = 2 := by omega
    have e := h2.c2
    have ef := h2.fz 2
    have hv : ((wk f 2 i : Int) % 2 == 1) = f i := by
     cases XI : f i <;> rw [XI] at ho <;> simp at ho <;> simp <;> omega
    have hq : (wk f 2 i : Int) / 2 = (wk f 2 (i + 1) : Int) := by omega
    have hs0 := ξ (jc f 0 i (by omega))
    have GP := ξ (jc f 1 i (by omega))
    have JE := ξ (jc f 3 i (by omega))
    clear ho hh hd
    go_wp2
    go_roundw
    case rel =>
     have q := (h2.other (p := ⟨w.heap.size + 1 + 1, i, none⟩) (by show w.heap.size ≠ w.heap.size + 1 + 1; omega) (.bool (f i))).s2 (.int .u64 (wk f 2 (i + 1)))
     rw [← hs0.out, ← GP.out, ← JE.out] at q
     exact ⟨i + 1, by omega, by simp, q, (h0.other (p := ⟨w.heap.size + 1 + 1, i, none⟩) (by show w.heap.size + 1 ≠ w.heap.size + 1 + 1; omega) _).other (p := ⟨w.heap.size, 2, none⟩) (by show w.heap.size + 1 ≠ w.heap.size; omega) _,
      ((h1.set i (f i)).congr HF.out).other (p := ⟨w.heap.size, 2, none⟩) (by show w.heap.size + 1 + 1 ≠ w.heap.size; omega) _, (hB.setCell (p := ⟨w.heap.size + 1 + 1, i, none⟩) (by show w.heap.size ≤ w.heap.size + 1 + 1; omega) _).setCell (p := ⟨w.heap.size, 2, none⟩) (Nat.le_refl _) _⟩
    case measure => (simp [RowKit.intOf]) <;> omega
   ·rw [hd] at ho hh
    have hb := G8 f 3 i
    have qh8 : (i : Int) / 64 = 3 := by omega
    have e := h2.c3
    have ef := h2.fz 3
    have hv : ((wk f 3 i : Int) % 2 == 1) = f i := by
     cases XI : f i <;> rw [XI] at ho <;> simp at ho <;> simp <;> omega
    have hq : (wk f 3 i : Int) / 2 = (wk f 3 (i + 1) : Int) := by omega
    have hs0 := ξ (jc f 0 i (by omega))
    have GP := ξ (jc f 1 i (by omega))
    have Qm := ξ (jc f 2 i (by omega))
    clear ho hh hd
    go_wp2
    go_roundw
    case rel =>
     have q := (h2.other (p := ⟨w.heap.size + 1 + 1, i, none⟩) (by show w.heap.size ≠ w.heap.size + 1 + 1; omega) (.bool (f i))).s3 (.int .u64 (wk f 3 (i + 1)))
     rw [← hs0.out, ← GP.out, ← Qm.out] at q
     exact ⟨i + 1, by omega, by simp, q, (h0.other (p := ⟨w.heap.size + 1 + 1, i, none⟩) (by show w.heap.size + 1 ≠ w.heap.size + 1 + 1; omega) _).other (p := ⟨w.heap.size, 3, none⟩) (by show w.heap.size + 1 ≠ w.heap.size; omega) _,
      ((h1.set i (f i)).congr HF.out).other (p := ⟨w.heap.size, 3, none⟩) (by show w.heap.size + 1 + 1 ≠ w.heap.size; omega) _, (hB.setCell (p := ⟨w.heap.size + 1 + 1, i, none⟩) (by show w.heap.size ≤ w.heap.size + 1 + 1; omega) _).setCell (p := ⟨w.heap.size, 3, none⟩) (Nat.le_refl _) _⟩
    case measure => (simp [RowKit.intOf]) <;> omega
  ·obtain rfl : i = 256 := by omega
   have h1 := h1.congr (g := f) (fun i hi => by simp [hi])
   have Kp := h0.storeCells
   go_wp2
   refine wp_load_row h1 rfl rfl ?_
   go_wp2
   have q := h0.put f
   have ql := q.load
   refine bodyPost_ret (v := .agg (zP f)) ?_ rfl ⟨rfl, Below.setRow hB (by omega) _⟩
   simp [results, results108, asAddr, Result.andThen, ql]
def part (f : Nat → Bool) (k j : Nat) : Bool := if (65 ≤ j ∧ j < k) ∨ (97 ≤ j ∧ j < k + 32) then qkv f j else f j
theorem Row.kept {A B : World} {row : Option Nat} {b : Nat} {f : Nat → Bool} (h : Row A b f) (hg : A.grownBy B row) (hr : row ≠ some b) : Row B b f := ⟨(hg.block b h.lt (fun e => hr e.symm)).trans h.heap⟩
theorem qcm {W : World} {base k n : Nat} {v : Value} {xs : List Value} (h : W.ownsRow base 5 1 v k xs) (hn : v.ownBlock = some n) : base ≤ n := by
 rcases h.2 with ⟨rfl, _⟩ | ⟨g, cap, cur, rfl, hb, _⟩
 ·simp [Value.ownBlock] at hn
 ·have : g = n := by simpa [Value.ownBlock] using hn
  omega
end Go.Proofs.YtjgegohidhdbpaaGreatDoor
