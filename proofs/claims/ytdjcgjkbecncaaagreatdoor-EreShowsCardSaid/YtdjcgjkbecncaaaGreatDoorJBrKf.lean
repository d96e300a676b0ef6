/- The text of a pattern's nodes: textOf, by induction on the tree. -/
import Derived.Test.YtdjcgjkbecncaaaGreatDoorJBrKd
import Derived.Test.YtdjcgjkbecncaaaGreatDoorJRxTd
set_option linter.unusedVariables false
set_option linter.unusedSimpArgs false
set_option maxRecDepth 100000
set_option maxHeartbeats 40000000
namespace Go.Proofs.YtdjcgjkbecncaaaGreatDoor
open Go.RowKit Go.Lib
def TextC (b o0 n cap : Nat) (xs : List Nd) (t : T) : Prop := ∀ (o k : Nat) (w : World), T.At (fun i => xs[i]?) t o → o + t.size = k + 1 → k < n → Fit3 w → NodesAt w b o0 xs →
 Calls Tryz.prog 135 #[.slice (some ⟨b, o0, none⟩) n cap, .int .i64 (k : Int)] w fun e w' => e = .returned (.string ⟨(textT t).toArray⟩) ∧ Below w.heap.size w w'
structure TS (g : Nat) (x : Nd) (b o0 : Nat) (xs : List Nd) (w : World) : Prop where
 nb : NB w g x
 x : NodesAt w b o0 xs
 f : Fit3 w
theorem TS.below {g b o0 : Nat} {x : Nd} {xs : List Nd} {w w' : World} (h : TS g x b o0 xs w) (hB : Below w.heap.size w w') : TS g x b o0 xs w' := ⟨h.nb.below hB h.nb.lt, h.x.below hB h.x.lt, h.f.below hB⟩
theorem textof_leaf0 (b o0 n cap : Nat) (xs : List Nd) (hlen : xs.length = n) (hn : n ≤ 120) (hfit : ∀ (i : Nat) (x : Nd), xs[i]? = some x → x.Fits) (w0 w1 w2 w3 : Nat) (xa xb m M xn : Int) : TextC b o0 n cap xs (T.leaf ⟨0, w0, w1, w2, w3, xa, xb, m, M, xn⟩) := by
 intro o k w ha he hk hw hx
 have hr := ha.root
 have lb := hx.lt
 rw [show o + (T.leaf ⟨0, w0, w1, w2, w3, xa, xb, m, M, xn⟩).size - 1 = k by omega] at hr
 simp only [T.root] at hr
 have hfx := hfit k _ hr
 have hcell := hx.cell k _ hr
 have d0 : w.cell? ⟨b, o0 + k * 10, none⟩ = some (.int .i64 0) := hcell 0 _ rfl
 have d1 : w.cell? ⟨b, o0 + k * 10 + 1, none⟩ = some (.int .u64 w0) := hcell 1 _ rfl
 have d2 : w.cell? ⟨b, o0 + k * 10 + 2, none⟩ = some (.int .u64 w1) := hcell 2 _ rfl
 have d3 : w.cell? ⟨b, o0 + k * 10 + 3, none⟩ = some (.int .u64 w2) := hcell 3 _ rfl
 have d4 : w.cell? ⟨b, o0 + k * 10 + 4, none⟩ = some (.int .u64 w3) := hcell 4 _ rfl
 have d5 : w.cell? ⟨b, o0 + k * 10 + 5, none⟩ = some (.int .i64 xa) := hcell 5 _ rfl
 have d6 : w.cell? ⟨b, o0 + k * 10 + 6, none⟩ = some (.int .i64 xb) := hcell 6 _ rfl
 have d7 : w.cell? ⟨b, o0 + k * 10 + 7, none⟩ = some (.int .i64 m) := hcell 7 _ rfl
 have d8 : w.cell? ⟨b, o0 + k * 10 + 8, none⟩ = some (.int .i64 M) := hcell 8 _ rfl
 have d9 : w.cell? ⟨b, o0 + k * 10 + 9, none⟩ = some (.int .i64 xn) := hcell 9 _ rfl
 have bA : ∀ ob, Below w.heap.size w (w.alloc ob) := fun ob => (Below.refl _ w).alloc (Nat.le_refl _) ob
 clear hcell hr
 have ht : textT (T.leaf ⟨0, w0, w1, w2, w3, xa, xb, m, M, xn⟩) = [] := rfl
 rw [ht]
 clear ht
 go_enter Tryz.func135, Tryz.ntmps135
 go_wp2
 go_ret
 exact ⟨rfl, bA _⟩
theorem textof_leaf2 (b o0 n cap : Nat) (xs : List Nd) (hlen : xs.length = n) (hn : n ≤ 120) (hfit : ∀ (i : Nat) (x : Nd), xs[i]? = some x → x.Fits) (w0 w1 w2 w3 : Nat) (xa xb m M xn : Int) : TextC b o0 n cap xs (T.leaf ⟨2, w0, w1, w2, w3, xa, xb, m, M, xn⟩) := by
 intro o k w ha he hk hw hx
 have hr := ha.root
 have lb := hx.lt
 rw [show o + (T.leaf ⟨2, w0, w1, w2, w3, xa, xb, m, M, xn⟩).size - 1 = k by omega] at hr
 simp only [T.root] at hr
 have hfx := hfit k _ hr
 have hcell := hx.cell k _ hr
 have d0 : w.cell? ⟨b, o0 + k * 10, none⟩ = some (.int .i64 2) := hcell 0 _ rfl
 have d1 : w.cell? ⟨b, o0 + k * 10 + 1, none⟩ = some (.int .u64 w0) := hcell 1 _ rfl
 have d2 : w.cell? ⟨b, o0 + k * 10 + 2, none⟩ = some (.int .u64 w1) := hcell 2 _ rfl
 have d3 : w.cell? ⟨b, o0 + k * 10 + 3, none⟩ = some (.int .u64 w2) := hcell 3 _ rfl
 have d4 : w.cell? ⟨b, o0 + k * 10 + 4, none⟩ = some (.int .u64 w3) := hcell 4 _ rfl
 have d5 : w.cell? ⟨b, o0 + k * 10 + 5, none⟩ = some (.int .i64 xa) := hcell 5 _ rfl
 have d6 : w.cell? ⟨b, o0 + k * 10 + 6, none⟩ = some (.int .i64 xb) := hcell 6 _ rfl
 have d7 : w.cell? ⟨b, o0 + k * 10 + 7, none⟩ = some (.int .i64 m) := hcell 7 _ rfl
 have d8 : w.cell? ⟨b, o0 + k * 10 + 8, none⟩ = some (.int .i64 M) := hcell 8 _ rfl
 have d9 : w.cell? ⟨b, o0 + k * 10 + 9, none⟩ = some (.int .i64 xn) := hcell 9 _ rfl
 have bA : ∀ ob, Below w.heap.size w (w.alloc ob) := fun ob => (Below.refl _ w).alloc (Nat.le_refl _) ob
 clear hcell hr
 have ht : textT (T.leaf ⟨2, w0, w1, w2, w3, xa, xb, m, M, xn⟩) = [94] := rfl
 rw [ht]
 clear ht
 go_enter Tryz.func135, Tryz.ntmps135
 go_wp2
 go_ret
 exact ⟨rfl, bA _⟩
theorem textof_leaf3 (b o0 n cap : Nat) (xs : List Nd) (hlen : xs.length = n) (hn : n ≤ 120) (hfit : ∀ (i : Nat) (x : Nd), xs[i]? = some x → x.Fits) (w0 w1 w2 w3 : Nat) (xa xb m M xn : Int) : TextC b o0 n cap xs (T.leaf ⟨3, w0, w1, w2, w3, xa, xb, m, M, xn⟩) := by
 intro o k w ha he hk hw hx
 have hr := ha.root
 have lb := hx.lt
 rw [show o + (T.leaf ⟨3, w0, w1, w2, w3, xa, xb, m, M, xn⟩).size - 1 = k by omega] at hr
 simp only [T.root] at hr
 have hfx := hfit k _ hr
 have hcell := hx.cell k _ hr
 have d0 : w.cell? ⟨b, o0 + k * 10, none⟩ = some (.int .i64 3) := hcell 0 _ rfl
 have d1 : w.cell? ⟨b, o0 + k * 10 + 1, none⟩ = some (.int .u64 w0) := hcell 1 _ rfl
 have d2 : w.cell? ⟨b, o0 + k * 10 + 2, none⟩ = some (.int .u64 w1) := hcell 2 _ rfl
 have d3 : w.cell? ⟨b, o0 + k * 10 + 3, none⟩ = some (.int .u64 w2) := hcell 3 _ rfl
 have d4 : w.cell? ⟨b, o0 + k * 10 + 4, none⟩ = some (.int .u64 w3) := hcell 4 _ rfl
 have d5 : w.cell? ⟨b, o0 + k * 10 + 5, none⟩ = some (.int .i64 xa) := hcell 5 _ rfl
 have d6 : w.cell? ⟨b, o0 + k * 10 + 6, none⟩ = some (.int .i64 xb) := hcell 6 _ rfl
 have d7 : w.cell? ⟨b, o0 + k * 10 + 7, none⟩ = some (.int .i64 m) := hcell 7 _ rfl
 have d8 : w.cell? ⟨b, o0 + k * 10 + 8, none⟩ = some (.int .i64 M) := hcell 8 _ rfl
 have d9 : w.cell? ⟨b, o0 + k * 10 + 9, none⟩ = some (.int .i64 xn) := hcell 9 _ rfl
 have bA : ∀ ob, Below w.heap.size w (w.alloc ob) := fun ob => (Below.refl _ w).alloc (Nat.le_refl _) ob
 clear hcell hr
 have ht : textT (T.leaf ⟨3, w0, w1, w2, w3, xa, xb, m, M, xn⟩) = [36] := rfl
 rw [ht]
 clear ht
 go_enter Tryz.func135, Tryz.ntmps135
 go_wp2
 go_ret
 exact ⟨rfl, bA _⟩
theorem textof_leaf1 (b o0 n cap : Nat) (xs : List Nd) (hlen : xs.length = n) (hn : n ≤ 120) (hfit : ∀ (i : Nat) (x : Nd), xs[i]? = some x → x.Fits) (w0 w1 w2 w3 : Nat) (xa xb m M xn : Int) : TextC b o0 n cap xs (T.leaf ⟨1, w0, w1, w2, w3, xa, xb, m, M, xn⟩) := by
 intro o k w ha he hk hw hx
 have hr := ha.root
 have lb := hx.lt
 rw [show o + (T.leaf ⟨1, w0, w1, w2, w3, xa, xb, m, M, xn⟩).size - 1 = k by omega] at hr
 simp only [T.root] at hr
 have hfx := hfit k _ hr
 have hcell := hx.cell k _ hr
 have d0 : w.cell? ⟨b, o0 + k * 10, none⟩ = some (.int .i64 1) := hcell 0 _ rfl
 have d1 : w.cell? ⟨b, o0 + k * 10 + 1, none⟩ = some (.int .u64 w0) := hcell 1 _ rfl
 have d2 : w.cell? ⟨b, o0 + k * 10 + 2, none⟩ = some (.int .u64 w1) := hcell 2 _ rfl
 have d3 : w.cell? ⟨b, o0 + k * 10 + 3, none⟩ = some (.int .u64 w2) := hcell 3 _ rfl
 have d4 : w.cell? ⟨b, o0 + k * 10 + 4, none⟩ = some (.int .u64 w3) := hcell 4 _ rfl
 have d5 : w.cell? ⟨b, o0 + k * 10 + 5, none⟩ = some (.int .i64 xa) := hcell 5 _ rfl
 have d6 : w.cell? ⟨b, o0 + k * 10 + 6, none⟩ = some (.int .i64 xb) := hcell 6 _ rfl
 have d7 : w.cell? ⟨b, o0 + k * 10 + 7, none⟩ = some (.int .i64 m) := hcell 7 _ rfl
 have d8 : w.cell? ⟨b, o0 + k * 10 + 8, none⟩ = some (.int .i64 M) := hcell 8 _ rfl
 have d9 : w.cell? ⟨b, o0 + k * 10 + 9, none⟩ = some (.int .i64 xn) := hcell 9 _ rfl
 have bA : ∀ ob, Below w.heap.size w (w.alloc ob) := fun ob => (Below.refl _ w).alloc (Nat.le_refl _) ob
 clear hcell hr
 have ht : textT (T.leaf ⟨1, w0, w1, w2, w3, xa, xb, m, M, xn⟩) = showP (ofWords w0 w1 w2 w3) := rfl
 rw [ht]
 clear ht
 obtain ⟨a0, a1, a2, a3⟩ := ofWords_wd hfx.s0 hfx.s1 hfx.s2 hfx.s3
 have hsv : sv (ofWords w0 w1 w2 w3) = .agg #[.int .u64 w0, .int .u64 w1, .int .u64 w2, .int .u64 w3] := by
  unfold sv
  rw [a0, a1, a2, a3]
 have hsh := show_c (ofWords w0 w1 w2 w3) _ (hw.below (bA (.cells #[.int .i64 1, .int .u64 w0, .int .u64 w1, .int .u64 w2, .int .u64 w3, .int .i64 xa, .int .i64 xb, .int .i64 m, .int .i64 M, .int .i64 xn] 37))).fit
 rw [hsv] at hsh
 have HS := Lib.hid hsh
 clear hsh hsv a0 a1 a2 a3
 have hba := bA (.cells #[.int .i64 1, .int .u64 w0, .int .u64 w1, .int .u64 w2, .int .u64 w3, .int .i64 xa, .int .i64 xb, .int .i64 m, .int .i64 M, .int .i64 xn] 37)
 go_enter Tryz.func135, Tryz.ntmps135
 go_wp2_with fail
 refine HS.out.mono ?_
 rintro e w1 ⟨rfl, hB1⟩
 go_wp2
 go_ret
 exact ⟨rfl, hba.trans (hB1.mono hba.size)⟩
theorem textof_leaf8 (b o0 n cap : Nat) (xs : List Nd) (hlen : xs.length = n) (hn : n ≤ 120) (hfit : ∀ (i : Nat) (x : Nd), xs[i]? = some x → x.Fits) (w0 w1 w2 w3 : Nat) (xa xb m M xn : Int) : TextC b o0 n cap xs (T.leaf ⟨8, w0, w1, w2, w3, xa, xb, m, M, xn⟩) := by
 intro o k w ha he hk hw hx
 have hr := ha.root
 have lb := hx.lt
 rw [show o + (T.leaf ⟨8, w0, w1, w2, w3, xa, xb, m, M, xn⟩).size - 1 = k by omega] at hr
 simp only [T.root] at hr
 have hfx := hfit k _ hr
 have hcell := hx.cell k _ hr
 have d0 : w.cell? ⟨b, o0 + k * 10, none⟩ = some (.int .i64 8) := hcell 0 _ rfl
 have d1 : w.cell? ⟨b, o0 + k * 10 + 1, none⟩ = some (.int .u64 w0) := hcell 1 _ rfl
 have d2 : w.cell? ⟨b, o0 + k * 10 + 2, none⟩ = some (.int .u64 w1) := hcell 2 _ rfl
 have d3 : w.cell? ⟨b, o0 + k * 10 + 3, none⟩ = some (.int .u64 w2) := hcell 3 _ rfl
 have d4 : w.cell? ⟨b, o0 + k * 10 + 4, none⟩ = some (.int .u64 w3) := hcell 4 _ rfl
 have d5 : w.cell? ⟨b, o0 + k * 10 + 5, none⟩ = some (.int .i64 xa) := hcell 5 _ rfl
 have d6 : w.cell? ⟨b, o0 + k * 10 + 6, none⟩ = some (.int .i64 xb) := hcell 6 _ rfl
 have d7 : w.cell? ⟨b, o0 + k * 10 + 7, none⟩ = some (.int .i64 m) := hcell 7 _ rfl
 have d8 : w.cell? ⟨b, o0 + k * 10 + 8, none⟩ = some (.int .i64 M) := hcell 8 _ rfl
 have d9 : w.cell? ⟨b, o0 + k * 10 + 9, none⟩ = some (.int .i64 xn) := hcell 9 _ rfl
 have bA : ∀ ob, Below w.heap.size w (w.alloc ob) := fun ob => (Below.refl _ w).alloc (Nat.le_refl _) ob
 clear hcell hr
 have ht : textT (T.leaf ⟨8, w0, w1, w2, w3, xa, xb, m, M, xn⟩) = [92] ++ itoa xn := rfl
 have h1 := hfx.n
 simp only at h1
 have hl := itoa_length_le xn h1.1 h1.2
 obtain ⟨H, hH⟩ : ∃ H : ByteArray, H = ⟨(itoa xn).toArray⟩ := ⟨_, rfl⟩
 have hs : H.size ≤ 21 := by rw [hH]; simpa [ByteArray.size] using hl
 have hHd : H.data.toList = itoa xn := by rw [hH]
 have hit := itoa_c xn h1.1 h1.2 _ (hw.below (bA (.cells #[.int .i64 8, .int .u64 w0, .int .u64 w1, .int .u64 w2, .int .u64 w3, .int .i64 xa, .int .i64 xb, .int .i64 m, .int .i64 M, .int .i64 xn] 37)))
 rw [← hH] at hit
 rw [ht, ← hHd]
 have HS := Lib.hid hit
 clear hit ht hH hHd hl h1
 have hba := bA (.cells #[.int .i64 8, .int .u64 w0, .int .u64 w1, .int .u64 w2, .int .u64 w3, .int .i64 xa, .int .i64 xb, .int .i64 m, .int .i64 M, .int .i64 xn] 37)
 go_enter Tryz.func135, Tryz.ntmps135
 go_wp2_with fail
 refine HS.out.mono ?_
 rintro e w1 ⟨rfl, hB1⟩
 go_wp2
 go_ret
 refine ⟨(congrArg (fun t : ByteArray => Ending.returned (Value.string t)) (?_ : (⟨#[92]⟩ : ByteArray) ++ H = ⟨([92] ++ H.data.toList).toArray⟩)), hba.trans (hB1.mono hba.size)⟩
 apply Go.WideShapes.bytes_inj
 simp
theorem textof_group (b o0 n cap : Nat) (xs : List Nd) (hlen : xs.length = n) (hn : n ≤ 120) (hfit : ∀ (i : Nat) (x : Nd), xs[i]? = some x → x.Fits) (g : Int) (t : T) (ht : t.Ok) (ih : TextC b o0 n cap xs t) : TextC b o0 n cap xs (T.group g t) := by
 intro o k w ha he hk hw hx
 have hr := ha.root
 have lb := hx.lt
 rw [show o + (T.group g t).size - 1 = k by omega] at hr
 simp only [T.root] at hr
 simp only [T.size] at he
 have tp := t.size_pos
 obtain ⟨p, rfl⟩ : ∃ p, k = p + 1 := ⟨k - 1, by omega⟩
 have ea : (o : Int) + t.size - 1 = (p : Int) := by omega
 rw [ea] at hr
 have hcell := hx.cell _ _ hr
 have d0 : w.cell? ⟨b, o0 + (p + 1) * 10, none⟩ = some (.int .i64 7) := hcell 0 _ rfl
 have d1 : w.cell? ⟨b, o0 + (p + 1) * 10 + 1, none⟩ = some (.int .u64 0) := hcell 1 _ rfl
 have d2 : w.cell? ⟨b, o0 + (p + 1) * 10 + 2, none⟩ = some (.int .u64 0) := hcell 2 _ rfl
 have d3 : w.cell? ⟨b, o0 + (p + 1) * 10 + 3, none⟩ = some (.int .u64 0) := hcell 3 _ rfl
 have d4 : w.cell? ⟨b, o0 + (p + 1) * 10 + 4, none⟩ = some (.int .u64 0) := hcell 4 _ rfl
 have d5 : w.cell? ⟨b, o0 + (p + 1) * 10 + 5, none⟩ = some (.int .i64 p) := hcell 5 _ rfl
 have d6 : w.cell? ⟨b, o0 + (p + 1) * 10 + 6, none⟩ = some (.int .i64 0) := hcell 6 _ rfl
 have d7 : w.cell? ⟨b, o0 + (p + 1) * 10 + 7, none⟩ = some (.int .i64 0) := hcell 7 _ rfl
 have d8 : w.cell? ⟨b, o0 + (p + 1) * 10 + 8, none⟩ = some (.int .i64 0) := hcell 8 _ rfl
 have d9 : w.cell? ⟨b, o0 + (p + 1) * 10 + 9, none⟩ = some (.int .i64 g) := hcell 9 _ rfl
 have hba := (Below.refl w.heap.size w).alloc (Nat.le_refl _) (.cells #[.int .i64 7, .int .u64 0, .int .u64 0, .int .u64 0, .int .u64 0, .int .i64 p, .int .i64 0, .int .i64 0, .int .i64 0, .int .i64 g] 37)
 have hih := ih o p _ ha.1 (by omega) (by omega) (hw.below hba) (hx.below hba hx.lt)
 have htl := textT_len t ht
 have htn : t.size ≤ 120 := by omega
 have e1 : textT (T.group g t) = [92, 40] ++ textT t ++ [92, 41] := rfl
 obtain ⟨H, hH⟩ : ∃ H : ByteArray, H = ⟨(textT t).toArray⟩ := ⟨_, rfl⟩
 have hs : H.size ≤ 50000 := by rw [hH]; simp [ByteArray.size]; omega
 have hHd : H.data.toList = textT t := by rw [hH]
 rw [← hH] at hih
 rw [e1, ← hHd]
 have HS := Lib.hid hih
 clear hih hH hHd e1 htl htn hcell hr ih ha ht
 go_enter Tryz.func135, Tryz.ntmps135
 go_wp2_with fail
 refine HS.out.mono ?_
 rintro e w1 ⟨rfl, hB1⟩
 go_wp2
 go_ret
 refine ⟨(congrArg (fun t : ByteArray => Ending.returned (Value.string t)) (?_ : (⟨#[92, 40]⟩ : ByteArray) ++ H ++ ⟨#[92, 41]⟩ = ⟨([92, 40] ++ H.data.toList ++ [92, 41]).toArray⟩)), hba.trans (hB1.mono hba.size)⟩
 apply Go.WideShapes.bytes_inj
 simp
theorem textof_two5 (b o0 n cap : Nat) (xs : List Nd) (hlen : xs.length = n) (hn : n ≤ 120) (hfit : ∀ (i : Nat) (x : Nd), xs[i]? = some x → x.Fits) (s t : T) : TextC b o0 n cap xs (T.two 5 s t) := by
 intro o k w ha he hk hw hx
 have hr := ha.root
 have lb := hx.lt
 rw [show o + (T.two 5 s t).size - 1 = k by omega] at hr
 simp only [T.root] at hr
 simp only [T.size] at he
 have sp := s.size_pos
 have tp := t.size_pos
 obtain ⟨q, rfl⟩ : ∃ q, k = q + 1 := ⟨k - 1, by omega⟩
 obtain ⟨p, hp⟩ : ∃ p, o + s.size = p + 1 := ⟨o + s.size - 1, by omega⟩
 have ea : (o : Int) + s.size - 1 = (p : Int) := by omega
 have eb : (o : Int) + s.size + t.size - 1 = (q : Int) := by omega
 rw [ea, eb] at hr
 have hcell := hx.cell _ _ hr
 have d0 : w.cell? ⟨b, o0 + (q + 1) * 10, none⟩ = some (.int .i64 5) := hcell 0 _ rfl
 have d1 : w.cell? ⟨b, o0 + (q + 1) * 10 + 1, none⟩ = some (.int .u64 0) := hcell 1 _ rfl
 have d2 : w.cell? ⟨b, o0 + (q + 1) * 10 + 2, none⟩ = some (.int .u64 0) := hcell 2 _ rfl
 have d3 : w.cell? ⟨b, o0 + (q + 1) * 10 + 3, none⟩ = some (.int .u64 0) := hcell 3 _ rfl
 have d4 : w.cell? ⟨b, o0 + (q + 1) * 10 + 4, none⟩ = some (.int .u64 0) := hcell 4 _ rfl
 have d5 : w.cell? ⟨b, o0 + (q + 1) * 10 + 5, none⟩ = some (.int .i64 p) := hcell 5 _ rfl
 have d6 : w.cell? ⟨b, o0 + (q + 1) * 10 + 6, none⟩ = some (.int .i64 q) := hcell 6 _ rfl
 have d7 : w.cell? ⟨b, o0 + (q + 1) * 10 + 7, none⟩ = some (.int .i64 0) := hcell 7 _ rfl
 have d8 : w.cell? ⟨b, o0 + (q + 1) * 10 + 8, none⟩ = some (.int .i64 0) := hcell 8 _ rfl
 have d9 : w.cell? ⟨b, o0 + (q + 1) * 10 + 9, none⟩ = some (.int .i64 0) := hcell 9 _ rfl
 have hba := (Below.refl w.heap.size w).alloc (Nat.le_refl _) (.cells #[.int .i64 5, .int .u64 0, .int .u64 0, .int .u64 0, .int .u64 0, .int .i64 p, .int .i64 q, .int .i64 0, .int .i64 0, .int .i64 0] 37)
 have e1 : textT (T.two 5 s t) = [124] := rfl
 rw [e1]
 clear e1 hcell hr ha
 go_enter Tryz.func135, Tryz.ntmps135
 go_wp2
 go_ret
 exact ⟨rfl, hba⟩
theorem textof_two4 (b o0 n cap : Nat) (xs : List Nd) (hlen : xs.length = n) (hn : n ≤ 120) (hfit : ∀ (i : Nat) (x : Nd), xs[i]? = some x → x.Fits) (s t : T) (hs0 : s.Ok) (ht0 : t.Ok) (is : TextC b o0 n cap xs s) (it : TextC b o0 n cap xs t) : TextC b o0 n cap xs (T.two 4 s t) := by
 intro o k w ha he hk hw hx
 have hr := ha.root
 have lb := hx.lt
 rw [show o + (T.two 4 s t).size - 1 = k by omega] at hr
 simp only [T.root] at hr
 simp only [T.size] at he
 have sp := s.size_pos
 have tp := t.size_pos
 obtain ⟨q, rfl⟩ : ∃ q, k = q + 1 := ⟨k - 1, by omega⟩
 obtain ⟨p, hp⟩ : ∃ p, o + s.size = p + 1 := ⟨o + s.size - 1, by omega⟩
 have ea : (o : Int) + s.size - 1 = (p : Int) := by omega
 have eb : (o : Int) + s.size + t.size - 1 = (q : Int) := by omega
 rw [ea, eb] at hr
 have hcell := hx.cell _ _ hr
 have d0 : w.cell? ⟨b, o0 + (q + 1) * 10, none⟩ = some (.int .i64 4) := hcell 0 _ rfl
 have d1 : w.cell? ⟨b, o0 + (q + 1) * 10 + 1, none⟩ = some (.int .u64 0) := hcell 1 _ rfl
 have d2 : w.cell? ⟨b, o0 + (q + 1) * 10 + 2, none⟩ = some (.int .u64 0) := hcell 2 _ rfl
 have d3 : w.cell? ⟨b, o0 + (q + 1) * 10 + 3, none⟩ = some (.int .u64 0) := hcell 3 _ rfl
 have d4 : w.cell? ⟨b, o0 + (q + 1) * 10 + 4, none⟩ = some (.int .u64 0) := hcell 4 _ rfl
 have d5 : w.cell? ⟨b, o0 + (q + 1) * 10 + 5, none⟩ = some (.int .i64 p) := hcell 5 _ rfl
 have d6 : w.cell? ⟨b, o0 + (q + 1) * 10 + 6, none⟩ = some (.int .i64 q) := hcell 6 _ rfl
 have d7 : w.cell? ⟨b, o0 + (q + 1) * 10 + 7, none⟩ = some (.int .i64 0) := hcell 7 _ rfl
 have d8 : w.cell? ⟨b, o0 + (q + 1) * 10 + 8, none⟩ = some (.int .i64 0) := hcell 8 _ rfl
 have d9 : w.cell? ⟨b, o0 + (q + 1) * 10 + 9, none⟩ = some (.int .i64 0) := hcell 9 _ rfl
 have hba := (Below.refl w.heap.size w).alloc (Nat.le_refl _) (.cells #[.int .i64 4, .int .u64 0, .int .u64 0, .int .u64 0, .int .u64 0, .int .i64 p, .int .i64 q, .int .i64 0, .int .i64 0, .int .i64 0] 37)
 obtain ⟨w0, hw0⟩ : ∃ w0, w0 = w.alloc (.cells #[.int .i64 4, .int .u64 0, .int .u64 0, .int .u64 0, .int .u64 0, .int .i64 p, .int .i64 q, .int .i64 0, .int .i64 0, .int .i64 0] 37) := ⟨_, rfl⟩
 have hts : TS w.heap.size ⟨4, 0, 0, 0, 0, p, q, 0, 0, 0⟩ b o0 xs w0 := by rw [hw0]; exact ⟨NB.new w (⟨4, 0, 0, 0, 0, p, q, 0, 0, 0⟩ : Nd), hx.below hba hx.lt, hw.below hba⟩
 rw [← hw0] at hba
 obtain ⟨g, hg⟩ : ∃ g, g = w.heap.size := ⟨_, rfl⟩
 have htl := textT_len t ht0
 have hsl := textT_len s hs0
 have e1 : textT (T.two 4 s t) = textT s ++ textT t := rfl
 have his := fun w h1 h2 => is o p w ha.1 (by omega) (by omega) h1 h2
 have hit := fun w h1 h2 => it (o + s.size) q w ha.2.1 (by omega) (by omega) h1 h2
 obtain ⟨H, hH⟩ : ∃ H : ByteArray, H = ⟨(textT s).toArray⟩ := ⟨_, rfl⟩
 obtain ⟨J, hJ⟩ : ∃ H : ByteArray, H = ⟨(textT t).toArray⟩ := ⟨_, rfl⟩
 have hs : H.size ≤ 50000 := by rw [hH]; simp [ByteArray.size]; omega
 have hs' : J.size ≤ 50000 := by rw [hJ]; simp [ByteArray.size]; omega
 have yH : (9223372036854775807 < H.size + J.size) = False := by simp; omega
 have hHd : H.data.toList = textT s := by rw [hH]
 have hJd : J.data.toList = textT t := by rw [hJ]
 rw [← hH] at his
 rw [← hJ] at hit
 rw [e1, ← hHd, ← hJd]
 have HS := Lib.hid his
 have HT := Lib.hid hit
 have TS0 := Lib.hid hts
 have HW := Lib.hid hw0
 have HBA := Lib.hid hba
 clear his hit hH hHd hJ hJd e1 htl hsl hcell hr is it ha ht0 hs0 hts hw0 hba ea eb
 go_enter Tryz.func135, Tryz.ntmps135
 go_wp2_with fail
 rw [← HW.out]
 clear HW
 refine wp_region_held_drew (S := fun w' => TS w.heap.size ⟨4, 0, 0, 0, 0, p, q, 0, 0, 0⟩ b o0 xs w') (by kernel_rfl) (TS0.out.below (Below.refl _ _).drew) (fun hHeld => ?_)
 refine wpAnyH_take (i := 0) (v := ?_) rfl (by kernel_rfl) (by kernel_rfl) (by kernel_rfl) (fun _ _ _ h => h) (Or.inl ⟨by kernel_rfl, ?_⟩) (by assumption) ?_
 rotate_left
 ·(intro w hSw; (try dsimp only at hSw); go_simp); (try with_reducible rfl)
 try simp only [Act.put, laS]
 refine wpAnyH_take (i := 1) (v := ?_) rfl (by kernel_rfl) (by kernel_rfl) (by kernel_rfl) (fun _ _ _ h => h) (Or.inl ⟨by kernel_rfl, ?_⟩) (by assumption) ?_
 rotate_left
 ·(intro w hSw; (try dsimp only at hSw); go_simp); (try with_reducible rfl)
 try simp only [Act.put, laS]
 refine wpAnyH_take (i := 2) (v := ?_) rfl (by kernel_rfl) (by kernel_rfl) (by kernel_rfl) (fun _ _ _ h => h) (Or.inl ⟨by kernel_rfl, ?_⟩) (by assumption) ?_
 rotate_left
 ·(intro w hSw; (try dsimp only at hSw); have z5 := hSw.nb.c 5; have z6 := hSw.nb.c 6; have z7 := hSw.nb.c 7; have z8 := hSw.nb.c 8; simp only [Nd.cells, List.getElem?_toArray, List.getElem?_cons_succ, List.getElem?_cons_zero] at z5 z6 z7 z8; go_simp); (try with_reducible rfl)
 try simp only [Act.put, laS]
 refine wpAnyH_take (i := 4) (v := ?_) rfl (by kernel_rfl) (by kernel_rfl) (by kernel_rfl) (fun _ _ _ h => h) (Or.inl ⟨by kernel_rfl, ?_⟩) (by assumption) ?_
 rotate_left
 ·(intro w hSw; (try dsimp only at hSw); go_simp); (try with_reducible rfl)
 try simp only [Act.put, laS]
 refine wpAnyH_take (i := 5) (v := ?_) rfl (by kernel_rfl) (by kernel_rfl) (by kernel_rfl) (fun _ _ _ h => h) (Or.inl ⟨by kernel_rfl, ?_⟩) (by assumption) ?_
 rotate_left
 ·(intro w hSw; (try dsimp only at hSw); go_simp); (try with_reducible rfl)
 try simp only [Act.put, laS]
 refine wpAnyH_take (i := 6) (v := ?_) rfl (by kernel_rfl) (by kernel_rfl) (by kernel_rfl) (fun _ _ _ h => h) (Or.inl ⟨by kernel_rfl, ?_⟩) (by assumption) ?_
 rotate_left
 ·(intro w hSw; (try dsimp only at hSw); have z5 := hSw.nb.c 5; have z6 := hSw.nb.c 6; have z7 := hSw.nb.c 7; have z8 := hSw.nb.c 8; simp only [Nd.cells, List.getElem?_toArray, List.getElem?_cons_succ, List.getElem?_cons_zero] at z5 z6 z7 z8; go_simp); (try with_reducible rfl)
 try simp only [Act.put, laS]
 have hT := TS0.out.below (Below.refl _ w0).drew
 have bb := HBA.out.trans ((Below.refl _ w0).drew.mono HBA.out.size)
 refine wpAnyH_ready (rs := [3]) (by kernel_rfl) (by simp) ?_
 refine AllReadyH.cons rfl (fun K hK => ?_) AllReadyH.nil
 go_simp
 refine (HS.out _ hT.f hT.x).mono ?_
 rintro e w1 ⟨rfl, hB1⟩
 have b1 := bb.trans (hB1.mono bb.size)
 have hT1 := hT.below hB1
 refine hK.out _ _ ?_ (fun hHeld => ?_)
 ·exact hT1
 clear hK K hB1 hT bb
 try simp only [Act.put, laS]
 refine wpAnyH_ready (rs := [7]) (by kernel_rfl) (by simp) ?_
 refine AllReadyH.cons rfl (fun K hK => ?_) AllReadyH.nil
 go_simp
 refine (HT.out _ hT1.f hT1.x).mono ?_
 rintro e w2 ⟨rfl, hB2⟩
 have b2 := b1.trans (hB2.mono b1.size)
 have hT2 := hT1.below hB2
 refine hK.out _ _ ?_ (fun hHeld => ?_)
 ·exact hT2
 clear hK K hB2 hT1 b1
 try simp only [Act.put, laS]
 refine wpAnyH_take (i := 8) (v := ?_) rfl (by kernel_rfl) (by kernel_rfl) (by kernel_rfl) (fun _ _ _ h => h) (Or.inl ⟨by kernel_rfl, ?_⟩) (by assumption) ?_
 rotate_left
 ·(intro w hSw; (try dsimp only at hSw); go_simp); (try with_reducible rfl)
 try simp only [Act.put, laS]
 refine wpAnyH_take (i := 9) (v := ?_) rfl (by kernel_rfl) (by kernel_rfl) (by kernel_rfl) (fun _ _ _ h => h) (Or.inl ⟨by kernel_rfl, ?_⟩) (by assumption) ?_
 rotate_left
 ·(intro w hSw; (try dsimp only at hSw); go_simp); (try with_reducible rfl)
 try simp only [Act.put, laS]
 refine wpAnyH_done (by kernel_rfl) ?_ _
 go_wp2
 go_ret
 refine ⟨(congrArg (fun t : ByteArray => Ending.returned (Value.string t)) (?_ : H ++ J = ⟨(H.data.toList ++ J.data.toList).toArray⟩)), b2⟩
 apply Go.WideShapes.bytes_inj
 simp
theorem textof_times (b o0 n cap : Nat) (xs : List Nd) (hlen : xs.length = n) (hn : n ≤ 120) (hfit : ∀ (i : Nat) (x : Nd), xs[i]? = some x → x.Fits) (m M : Int) (t : T) (hc : isCnt m M = true) (ht0 : t.Ok) (it : TextC b o0 n cap xs t) : TextC b o0 n cap xs (T.times m M t) := by
 intro o k w ha he hk hw hx
 have hr := ha.root
 have lb := hx.lt
 rw [show o + (T.times m M t).size - 1 = k by omega] at hr
 simp only [T.root] at hr
 simp only [T.size] at he
 have tp := t.size_pos
 obtain ⟨p, rfl⟩ : ∃ p, k = p + 1 := ⟨k - 1, by omega⟩
 have ea : (o : Int) + t.size - 1 = (p : Int) := by omega
 rw [ea] at hr
 have hcell := hx.cell _ _ hr
 have d0 : w.cell? ⟨b, o0 + (p + 1) * 10, none⟩ = some (.int .i64 6) := hcell 0 _ rfl
 have d1 : w.cell? ⟨b, o0 + (p + 1) * 10 + 1, none⟩ = some (.int .u64 0) := hcell 1 _ rfl
 have d2 : w.cell? ⟨b, o0 + (p + 1) * 10 + 2, none⟩ = some (.int .u64 0) := hcell 2 _ rfl
 have d3 : w.cell? ⟨b, o0 + (p + 1) * 10 + 3, none⟩ = some (.int .u64 0) := hcell 3 _ rfl
 have d4 : w.cell? ⟨b, o0 + (p + 1) * 10 + 4, none⟩ = some (.int .u64 0) := hcell 4 _ rfl
 have d5 : w.cell? ⟨b, o0 + (p + 1) * 10 + 5, none⟩ = some (.int .i64 p) := hcell 5 _ rfl
 have d6 : w.cell? ⟨b, o0 + (p + 1) * 10 + 6, none⟩ = some (.int .i64 0) := hcell 6 _ rfl
 have d7 : w.cell? ⟨b, o0 + (p + 1) * 10 + 7, none⟩ = some (.int .i64 m) := hcell 7 _ rfl
 have d8 : w.cell? ⟨b, o0 + (p + 1) * 10 + 8, none⟩ = some (.int .i64 M) := hcell 8 _ rfl
 have d9 : w.cell? ⟨b, o0 + (p + 1) * 10 + 9, none⟩ = some (.int .i64 0) := hcell 9 _ rfl
 have hba := (Below.refl w.heap.size w).alloc (Nat.le_refl _) (.cells #[.int .i64 6, .int .u64 0, .int .u64 0, .int .u64 0, .int .u64 0, .int .i64 p, .int .i64 0, .int .i64 m, .int .i64 M, .int .i64 0] 37)
 obtain ⟨w0, hw0⟩ : ∃ w0, w0 = w.alloc (.cells #[.int .i64 6, .int .u64 0, .int .u64 0, .int .u64 0, .int .u64 0, .int .i64 p, .int .i64 0, .int .i64 m, .int .i64 M, .int .i64 0] 37) := ⟨_, rfl⟩
 have hts : TS w.heap.size ⟨6, 0, 0, 0, 0, p, 0, m, M, 0⟩ b o0 xs w0 := by rw [hw0]; exact ⟨NB.new w (⟨6, 0, 0, 0, 0, p, 0, m, M, 0⟩ : Nd), hx.below hba hx.lt, hw.below hba⟩
 rw [← hw0] at hba
 have htl := textT_len t ht0
 have hmm : 0 ≤ m ∧ m ≤ 255 ∧ -1 ≤ M ∧ M ≤ 255 := by
  unfold isCnt at hc
  split at hc
  ·cases hc
  ·have := of_decide_eq_true hc
   omega
 have hsl := timesT_len m M (by omega) (by omega) (by omega) (by omega)
 have e1 : textT (T.times m M t) = textT t ++ timesT m M := rfl
 have his := fun w h1 h2 => it o p w ha.1 (by omega) (by omega) h1 h2
 have hit := fun w (h1 : Fit3 w) => times_show m M (by omega) (by omega) (by omega) (by omega) w h1.pow
 obtain ⟨H, hH⟩ : ∃ H : ByteArray, H = ⟨(textT t).toArray⟩ := ⟨_, rfl⟩
 obtain ⟨J, hJ⟩ : ∃ H : ByteArray, H = ⟨(timesT m M).toArray⟩ := ⟨_, rfl⟩
 have hs : H.size ≤ 50000 := by rw [hH]; simp [ByteArray.size]; omega
 have hs' : J.size ≤ 50000 := by rw [hJ]; simp [ByteArray.size]; omega
 have yH : (9223372036854775807 < H.size + J.size) = False := by simp; omega
 have hHd : H.data.toList = textT t := by rw [hH]
 have hJd : J.data.toList = timesT m M := by rw [hJ]
 rw [← hH] at his
 rw [← hJ] at hit
 rw [e1, ← hHd, ← hJd]
 have HS := Lib.hid his
 have HT := Lib.hid hit
 have TS0 := Lib.hid hts
 have HW := Lib.hid hw0
 have HBA := Lib.hid hba
 clear his hit hH hHd hJ hJd e1 htl hsl hcell hr it ha ht0 hts hw0 hba ea hc
 go_enter Tryz.func135, Tryz.ntmps135
 go_wp2_with fail
 rw [← HW.out]
 clear HW
 refine wp_region_held_drew (S := fun w' => TS w.heap.size ⟨6, 0, 0, 0, 0, p, 0, m, M, 0⟩ b o0 xs w') (by kernel_rfl) (TS0.out.below (Below.refl _ _).drew) (fun hHeld => ?_)
 refine wpAnyH_take (i := 0) (v := ?_) rfl (by kernel_rfl) (by kernel_rfl) (by kernel_rfl) (fun _ _ _ h => h) (Or.inl ⟨by kernel_rfl, ?_⟩) (by assumption) ?_
 rotate_left
 ·(intro w hSw; (try dsimp only at hSw); go_simp); (try with_reducible rfl)
 try simp only [Act.put, laS]
 refine wpAnyH_take (i := 1) (v := ?_) rfl (by kernel_rfl) (by kernel_rfl) (by kernel_rfl) (fun _ _ _ h => h) (Or.inl ⟨by kernel_rfl, ?_⟩) (by assumption) ?_
 rotate_left
 ·(intro w hSw; (try dsimp only at hSw); go_simp); (try with_reducible rfl)
 try simp only [Act.put, laS]
 refine wpAnyH_take (i := 2) (v := ?_) rfl (by kernel_rfl) (by kernel_rfl) (by kernel_rfl) (fun _ _ _ h => h) (Or.inl ⟨by kernel_rfl, ?_⟩) (by assumption) ?_
 rotate_left
 ·(intro w hSw; (try dsimp only at hSw); have z5 := hSw.nb.c 5; have z6 := hSw.nb.c 6; have z7 := hSw.nb.c 7; have z8 := hSw.nb.c 8; simp only [Nd.cells, List.getElem?_toArray, List.getElem?_cons_succ, List.getElem?_cons_zero] at z5 z6 z7 z8; go_simp); (try with_reducible rfl)
 try simp only [Act.put, laS]
 refine wpAnyH_take (i := 4) (v := ?_) rfl (by kernel_rfl) (by kernel_rfl) (by kernel_rfl) (fun _ _ _ h => h) (Or.inl ⟨by kernel_rfl, ?_⟩) (by assumption) ?_
 rotate_left
 ·(intro w hSw; (try dsimp only at hSw); go_simp); (try with_reducible rfl)
 try simp only [Act.put, laS]
 refine wpAnyH_take (i := 5) (v := ?_) rfl (by kernel_rfl) (by kernel_rfl) (by kernel_rfl) (fun _ _ _ h => h) (Or.inl ⟨by kernel_rfl, ?_⟩) (by assumption) ?_
 rotate_left
 ·(intro w hSw; (try dsimp only at hSw); have z5 := hSw.nb.c 5; have z6 := hSw.nb.c 6; have z7 := hSw.nb.c 7; have z8 := hSw.nb.c 8; simp only [Nd.cells, List.getElem?_toArray, List.getElem?_cons_succ, List.getElem?_cons_zero] at z5 z6 z7 z8; go_simp); (try with_reducible rfl)
 try simp only [Act.put, laS]
 refine wpAnyH_take (i := 6) (v := ?_) rfl (by kernel_rfl) (by kernel_rfl) (by kernel_rfl) (fun _ _ _ h => h) (Or.inl ⟨by kernel_rfl, ?_⟩) (by assumption) ?_
 rotate_left
 ·(intro w hSw; (try dsimp only at hSw); go_simp); (try with_reducible rfl)
 try simp only [Act.put, laS]
 refine wpAnyH_take (i := 7) (v := ?_) rfl (by kernel_rfl) (by kernel_rfl) (by kernel_rfl) (fun _ _ _ h => h) (Or.inl ⟨by kernel_rfl, ?_⟩) (by assumption) ?_
 rotate_left
 ·(intro w hSw; (try dsimp only at hSw); have z5 := hSw.nb.c 5; have z6 := hSw.nb.c 6; have z7 := hSw.nb.c 7; have z8 := hSw.nb.c 8; simp only [Nd.cells, List.getElem?_toArray, List.getElem?_cons_succ, List.getElem?_cons_zero] at z5 z6 z7 z8; go_simp); (try with_reducible rfl)
 try simp only [Act.put, laS]
 have hT := TS0.out.below (Below.refl _ w0).drew
 have bb := HBA.out.trans ((Below.refl _ w0).drew.mono HBA.out.size)
 refine wpAnyH_ready (rs := [3]) (by kernel_rfl) (by simp) ?_
 refine AllReadyH.cons rfl (fun K hK => ?_) AllReadyH.nil
 go_simp
 refine (HS.out _ hT.f hT.x).mono ?_
 rintro e w1 ⟨rfl, hB1⟩
 have b1 := bb.trans (hB1.mono bb.size)
 have hT1 := hT.below hB1
 refine hK.out _ _ ?_ (fun hHeld => ?_)
 ·exact hT1
 clear hK K hB1 hT bb
 try simp only [Act.put, laS]
 refine wpAnyH_ready (rs := [8]) (by kernel_rfl) (by simp) ?_
 refine AllReadyH.cons rfl (fun K hK => ?_) AllReadyH.nil
 go_simp
 refine (HT.out _ hT1.f).mono ?_
 rintro e w2 ⟨rfl, hB2⟩
 have b2 := b1.trans (hB2.mono b1.size)
 have hT2 := hT1.below hB2
 refine hK.out _ _ ?_ (fun hHeld => ?_)
 ·exact hT2
 clear hK K hB2 hT1 b1
 try simp only [Act.put, laS]
 refine wpAnyH_take (i := 9) (v := ?_) rfl (by kernel_rfl) (by kernel_rfl) (by kernel_rfl) (fun _ _ _ h => h) (Or.inl ⟨by kernel_rfl, ?_⟩) (by assumption) ?_
 rotate_left
 ·(intro w hSw; (try dsimp only at hSw); go_simp); (try with_reducible rfl)
 try simp only [Act.put, laS]
 refine wpAnyH_take (i := 10) (v := ?_) rfl (by kernel_rfl) (by kernel_rfl) (by kernel_rfl) (fun _ _ _ h => h) (Or.inl ⟨by kernel_rfl, ?_⟩) (by assumption) ?_
 rotate_left
 ·(intro w hSw; (try dsimp only at hSw); go_simp); (try with_reducible rfl)
 try simp only [Act.put, laS]
 refine wpAnyH_done (by kernel_rfl) ?_ _
 go_wp2
 go_ret
 refine ⟨(congrArg (fun t : ByteArray => Ending.returned (Value.string t)) (?_ : H ++ J = ⟨(H.data.toList ++ J.data.toList).toArray⟩)), b2⟩
 apply Go.WideShapes.bytes_inj
 simp
theorem textof_all (b o0 n cap : Nat) (xs : List Nd) (hlen : xs.length = n) (hn : n ≤ 120) (hfit : ∀ (i : Nat) (x : Nd), xs[i]? = some x → x.Fits) : ∀ t : T, t.Ok → TextC b o0 n cap xs t
 | .leaf ⟨kd, w0, w1, w2, w3, xa, xb, m, M, xn⟩, h => by
  have hk := h.2
  simp only at hk
  rcases hk with rfl | rfl | rfl | rfl | rfl
  ·exact textof_leaf0 b o0 n cap xs hlen hn hfit w0 w1 w2 w3 xa xb m M xn
  ·exact textof_leaf1 b o0 n cap xs hlen hn hfit w0 w1 w2 w3 xa xb m M xn
  ·exact textof_leaf2 b o0 n cap xs hlen hn hfit w0 w1 w2 w3 xa xb m M xn
  ·exact textof_leaf3 b o0 n cap xs hlen hn hfit w0 w1 w2 w3 xa xb m M xn
  ·exact textof_leaf8 b o0 n cap xs hlen hn hfit w0 w1 w2 w3 xa xb m M xn
 | .two k s t, h => by
  rcases h.1 with rfl | rfl
  ·exact textof_two4 b o0 n cap xs hlen hn hfit s t h.2.1 h.2.2 (textof_all b o0 n cap xs hlen hn hfit s h.2.1) (textof_all b o0 n cap xs hlen hn hfit t h.2.2)
  ·exact textof_two5 b o0 n cap xs hlen hn hfit s t
 | .times m M t, h => textof_times b o0 n cap xs hlen hn hfit m M t h.1 h.2 (textof_all b o0 n cap xs hlen hn hfit t h.2)
 | .group g t, h => textof_group b o0 n cap xs hlen hn hfit g t h.2 (textof_all b o0 n cap xs hlen hn hfit t h.2)
end Go.Proofs.YtdjcgjkbecncaaaGreatDoor
