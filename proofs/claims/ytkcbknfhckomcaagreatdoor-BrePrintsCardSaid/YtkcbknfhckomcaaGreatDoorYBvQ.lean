/- The reference's print. -/
import Derived.Test.YtkcbknfhckomcaaGreatDoorYRxRd
import Derived.Test.YtkcbknfhckomcaaGreatDoorYBtN
import Derived.Test.YtkcbknfhckomcaaGreatDoorYBrKb
set_option linter.unusedVariables false
set_option linter.unusedSimpArgs false
set_option maxRecDepth 100000
set_option maxHeartbeats 40000000
namespace Go.Proofs.YtkcbknfhckomcaaGreatDoor
open Go.RowKit Go.Lib
def RPrints (b o0 n cap : Nat) (xs : List Nd) (t : T) : Prop := ∀ (o k : Nat) (w : World), T.At (fun i => xs[i]?) t o → o + t.size = k + 1 → k < n → NodesAt w b o0 xs →
 Calls Tryz.prog 15 #[.slice (some ⟨b, o0, none⟩) n cap, .int .i64 (k : Int)] w fun e w' => e = .returned (.string ⟨(textT t).toArray⟩) ∧ Below w.heap.size w w'
theorem rprint_leaf0 (b o0 n cap : Nat) (xs : List Nd) (hn : n ≤ 120) (w0 w1 w2 w3 : Nat) (xa xb m M xn : Int) : RPrints b o0 n cap xs (T.leaf ⟨0, w0, w1, w2, w3, xa, xb, m, M, xn⟩) := by
 intro o k w ha he hk hw
 have hr := ha.root
 rw [show o + (T.leaf ⟨0, w0, w1, w2, w3, xa, xb, m, M, xn⟩).size - 1 = k by omega] at hr
 have lb := hw.lt
 have hk1 : (k : Int) < n := by omega
 have hcell := hw.cell k _ hr
 have d0 : w.cell? ⟨b, o0 + k * 10, none⟩ = some (.int .i64 0) := hcell 0 _ rfl
 have d1 : w.cell? ⟨b, o0 + k * 10 + 1, none⟩ = some (.int .u64 w0) := hcell 1 _ rfl
 have d2 : w.cell? ⟨b, o0 + k * 10 + 2, none⟩ = some (.int .u64 w1) := hcell 2 _ rfl
 have d3 : w.cell? ⟨b, o0 + k * 10 + 3, none⟩ = some (.int .u64 w2) := hcell 3 _ rfl
 have d4 : w.cell? ⟨b, o0 + k * 10 + 4, none⟩ = some (.int .u64 w3) := hcell 4 _ rfl
 have d5 : w.cell? ⟨b, o0 + k * 10 + 5, none⟩ = some (.int .i64 xa) := hcell 5 _ rfl
 have d6 : w.cell? ⟨b, o0 + k * 10 + 6, none⟩ = some (.int .i64 xb) := hcell 6 _ rfl
 have d7 : w.cell? ⟨b, o0 + k * 10 + 7, none⟩ = some (.int .i64 m) := hcell 7 _ rfl
 have d8 : w.cell? ⟨b, o0 + k * 10 + 8, none⟩ = some (.int .i64 M) := hcell 8 _ rfl
 have d9 : w.cell? ⟨b, o0 + k * 10 + 9, none⟩ = some (.int .i64 xn) := hcell 9 _ rfl
 have e : textT (T.leaf ⟨0, w0, w1, w2, w3, xa, xb, m, M, xn⟩) = [] := by simp [textT]
 rw [e]
 clear hcell hr ha
 go_enter Tryz.func15, Tryz.ntmps15
 go_wp2
 go_ret
 exact ⟨rfl, (Below.refl _ w).alloc (Nat.le_refl _) _⟩
theorem rprint_leaf2 (b o0 n cap : Nat) (xs : List Nd) (hn : n ≤ 120) (w0 w1 w2 w3 : Nat) (xa xb m M xn : Int) : RPrints b o0 n cap xs (T.leaf ⟨2, w0, w1, w2, w3, xa, xb, m, M, xn⟩) := by
 intro o k w ha he hk hw
 have hr := ha.root
 rw [show o + (T.leaf ⟨2, w0, w1, w2, w3, xa, xb, m, M, xn⟩).size - 1 = k by omega] at hr
 have lb := hw.lt
 have hk1 : (k : Int) < n := by omega
 have hcell := hw.cell k _ hr
 have d0 : w.cell? ⟨b, o0 + k * 10, none⟩ = some (.int .i64 2) := hcell 0 _ rfl
 have d1 : w.cell? ⟨b, o0 + k * 10 + 1, none⟩ = some (.int .u64 w0) := hcell 1 _ rfl
 have d2 : w.cell? ⟨b, o0 + k * 10 + 2, none⟩ = some (.int .u64 w1) := hcell 2 _ rfl
 have d3 : w.cell? ⟨b, o0 + k * 10 + 3, none⟩ = some (.int .u64 w2) := hcell 3 _ rfl
 have d4 : w.cell? ⟨b, o0 + k * 10 + 4, none⟩ = some (.int .u64 w3) := hcell 4 _ rfl
 have d5 : w.cell? ⟨b, o0 + k * 10 + 5, none⟩ = some (.int .i64 xa) := hcell 5 _ rfl
 have d6 : w.cell? ⟨b, o0 + k * 10 + 6, none⟩ = some (.int .i64 xb) := hcell 6 _ rfl
 have d7 : w.cell? ⟨b, o0 + k * 10 + 7, none⟩ = some (.int .i64 m) := hcell 7 _ rfl
 have d8 : w.cell? ⟨b, o0 + k * 10 + 8, none⟩ = some (.int .i64 M) := hcell 8 _ rfl
 have d9 : w.cell? ⟨b, o0 + k * 10 + 9, none⟩ = some (.int .i64 xn) := hcell 9 _ rfl
 have e : textT (T.leaf ⟨2, w0, w1, w2, w3, xa, xb, m, M, xn⟩) = [94] := by simp [textT]
 rw [e]
 clear hcell hr ha
 go_enter Tryz.func15, Tryz.ntmps15
 go_wp2
 go_ret
 exact ⟨rfl, (Below.refl _ w).alloc (Nat.le_refl _) _⟩
theorem rprint_leaf3 (b o0 n cap : Nat) (xs : List Nd) (hn : n ≤ 120) (w0 w1 w2 w3 : Nat) (xa xb m M xn : Int) : RPrints b o0 n cap xs (T.leaf ⟨3, w0, w1, w2, w3, xa, xb, m, M, xn⟩) := by
 intro o k w ha he hk hw
 have hr := ha.root
 rw [show o + (T.leaf ⟨3, w0, w1, w2, w3, xa, xb, m, M, xn⟩).size - 1 = k by omega] at hr
 have lb := hw.lt
 have hk1 : (k : Int) < n := by omega
 have hcell := hw.cell k _ hr
 have d0 : w.cell? ⟨b, o0 + k * 10, none⟩ = some (.int .i64 3) := hcell 0 _ rfl
 have d1 : w.cell? ⟨b, o0 + k * 10 + 1, none⟩ = some (.int .u64 w0) := hcell 1 _ rfl
 have d2 : w.cell? ⟨b, o0 + k * 10 + 2, none⟩ = some (.int .u64 w1) := hcell 2 _ rfl
 have d3 : w.cell? ⟨b, o0 + k * 10 + 3, none⟩ = some (.int .u64 w2) := hcell 3 _ rfl
 have d4 : w.cell? ⟨b, o0 + k * 10 + 4, none⟩ = some (.int .u64 w3) := hcell 4 _ rfl
 have d5 : w.cell? ⟨b, o0 + k * 10 + 5, none⟩ = some (.int .i64 xa) := hcell 5 _ rfl
 have d6 : w.cell? ⟨b, o0 + k * 10 + 6, none⟩ = some (.int .i64 xb) := hcell 6 _ rfl
 have d7 : w.cell? ⟨b, o0 + k * 10 + 7, none⟩ = some (.int .i64 m) := hcell 7 _ rfl
 have d8 : w.cell? ⟨b, o0 + k * 10 + 8, none⟩ = some (.int .i64 M) := hcell 8 _ rfl
 have d9 : w.cell? ⟨b, o0 + k * 10 + 9, none⟩ = some (.int .i64 xn) := hcell 9 _ rfl
 have e : textT (T.leaf ⟨3, w0, w1, w2, w3, xa, xb, m, M, xn⟩) = [36] := by simp [textT]
 rw [e]
 clear hcell hr ha
 go_enter Tryz.func15, Tryz.ntmps15
 go_wp2
 go_ret
 exact ⟨rfl, (Below.refl _ w).alloc (Nat.le_refl _) _⟩
theorem rprint_leaf1 (b o0 n cap : Nat) (xs : List Nd) (hn : n ≤ 120) (w0 w1 w2 w3 : Nat) (xa xb m M xn : Int) (hx : Nd.Fits ⟨1, w0, w1, w2, w3, xa, xb, m, M, xn⟩) : RPrints b o0 n cap xs (T.leaf ⟨1, w0, w1, w2, w3, xa, xb, m, M, xn⟩) := by
 intro o k w ha he hk hw
 have hr := ha.root
 rw [show o + (T.leaf ⟨1, w0, w1, w2, w3, xa, xb, m, M, xn⟩).size - 1 = k by omega] at hr
 have lb := hw.lt
 have hk1 : (k : Int) < n := by omega
 have hcell := hw.cell k _ hr
 have d0 : w.cell? ⟨b, o0 + k * 10, none⟩ = some (.int .i64 1) := hcell 0 _ rfl
 have d1 : w.cell? ⟨b, o0 + k * 10 + 1, none⟩ = some (.int .u64 w0) := hcell 1 _ rfl
 have d2 : w.cell? ⟨b, o0 + k * 10 + 2, none⟩ = some (.int .u64 w1) := hcell 2 _ rfl
 have d3 : w.cell? ⟨b, o0 + k * 10 + 3, none⟩ = some (.int .u64 w2) := hcell 3 _ rfl
 have d4 : w.cell? ⟨b, o0 + k * 10 + 4, none⟩ = some (.int .u64 w3) := hcell 4 _ rfl
 have d5 : w.cell? ⟨b, o0 + k * 10 + 5, none⟩ = some (.int .i64 xa) := hcell 5 _ rfl
 have d6 : w.cell? ⟨b, o0 + k * 10 + 6, none⟩ = some (.int .i64 xb) := hcell 6 _ rfl
 have d7 : w.cell? ⟨b, o0 + k * 10 + 7, none⟩ = some (.int .i64 m) := hcell 7 _ rfl
 have d8 : w.cell? ⟨b, o0 + k * 10 + 8, none⟩ = some (.int .i64 M) := hcell 8 _ rfl
 have d9 : w.cell? ⟨b, o0 + k * 10 + 9, none⟩ = some (.int .i64 xn) := hcell 9 _ rfl
 obtain ⟨a0, a1, a2, a3⟩ := ofWords_wd hx.s0 hx.s1 hx.s2 hx.s3
 obtain ⟨s, hs⟩ : ∃ s, s = Nd.set ⟨1, w0, w1, w2, w3, xa, xb, m, M, xn⟩ := ⟨_, rfl⟩
 have s0 : wd s 0 = w0 := by rw [hs]; exact a0
 have s1 : wd s 1 = w1 := by rw [hs]; exact a1
 have s2 : wd s 2 = w2 := by rw [hs]; exact a2
 have s3 : wd s 3 = w3 := by rw [hs]; exact a3
 have e : textT (T.leaf ⟨1, w0, w1, w2, w3, xa, xb, m, M, xn⟩) = showP s := by rw [hs]; simp [textT]
 rw [e]
 have HT := Lib.hid fun w' => told0_c s w'
 have HB := Lib.hid fun w' => rshow_c s w'
 unfold sv at HT
 rw [s0, s1, s2, s3] at HT
 clear hcell hr ha a0 a1 a2 a3 s0 s1 s2 s3 hs e hx
 generalize showP s = hx at *
 go_enter Tryz.func15, Tryz.ntmps15
 go_wp2_with fail
 refine (HT.out _).mono ?_
 rintro e W1 ⟨rfl, hB1⟩
 go_wp2_with fail
 refine (HB.out W1).mono ?_
 rintro e W2 ⟨rfl, hB2⟩
 have b0 : Below w.heap.size w (w.alloc (.cells #[.int .i64 1, .int .u64 w0, .int .u64 w1, .int .u64 w2, .int .u64 w3, .int .i64 xa, .int .i64 xb, .int .i64 m, .int .i64 M, .int .i64 xn] 47)) := (Below.refl _ w).alloc (Nat.le_refl _) _
 have b1 := b0.trans (hB1.mono b0.size)
 have b2 := b1.trans (hB2.mono b1.size)
 go_wp2
 go_ret
 exact ⟨rfl, b2⟩
theorem rprint_leaf8 (b o0 n cap : Nat) (xs : List Nd) (hn : n ≤ 120) (w0 w1 w2 w3 : Nat) (xa xb m M xn : Int) (hxn : 1 ≤ xn ∧ xn ≤ 9) : RPrints b o0 n cap xs (T.leaf ⟨8, w0, w1, w2, w3, xa, xb, m, M, xn⟩) := by
 intro o k w ha he hk hw
 have hr := ha.root
 rw [show o + (T.leaf ⟨8, w0, w1, w2, w3, xa, xb, m, M, xn⟩).size - 1 = k by omega] at hr
 have lb := hw.lt
 have hk1 : (k : Int) < n := by omega
 have hcell := hw.cell k _ hr
 have d0 : w.cell? ⟨b, o0 + k * 10, none⟩ = some (.int .i64 8) := hcell 0 _ rfl
 have d1 : w.cell? ⟨b, o0 + k * 10 + 1, none⟩ = some (.int .u64 w0) := hcell 1 _ rfl
 have d2 : w.cell? ⟨b, o0 + k * 10 + 2, none⟩ = some (.int .u64 w1) := hcell 2 _ rfl
 have d3 : w.cell? ⟨b, o0 + k * 10 + 3, none⟩ = some (.int .u64 w2) := hcell 3 _ rfl
 have d4 : w.cell? ⟨b, o0 + k * 10 + 4, none⟩ = some (.int .u64 w3) := hcell 4 _ rfl
 have d5 : w.cell? ⟨b, o0 + k * 10 + 5, none⟩ = some (.int .i64 xa) := hcell 5 _ rfl
 have d6 : w.cell? ⟨b, o0 + k * 10 + 6, none⟩ = some (.int .i64 xb) := hcell 6 _ rfl
 have d7 : w.cell? ⟨b, o0 + k * 10 + 7, none⟩ = some (.int .i64 m) := hcell 7 _ rfl
 have d8 : w.cell? ⟨b, o0 + k * 10 + 8, none⟩ = some (.int .i64 M) := hcell 8 _ rfl
 have d9 : w.cell? ⟨b, o0 + k * 10 + 9, none⟩ = some (.int .i64 xn) := hcell 9 _ rfl
 have e : textT (T.leaf ⟨8, w0, w1, w2, w3, xa, xb, m, M, xn⟩) = 92 :: itoa xn := by simp [textT]
 rw [e]
 have HD := Lib.hid fun w' => digits_c xn (by omega) (by omega) w'
 have hL : (itoa xn).length ≤ 100 := by
  rw [digit_one (by unfold isNum; simp; omega)]; simp
 clear hcell hr ha e
 generalize itoa xn = dx at *
 have hL1 : (9223372036854775807 < dx.length + 1) = False := by simp; omega
 have hL2 : (9223372036854775807 < 1 + dx.length) = False := by simp; omega
 go_enter Tryz.func15, Tryz.ntmps15
 go_wp2_with fail
 refine (HD.out _).mono ?_
 rintro e W1 ⟨rfl, hB1⟩
 have b0 : Below w.heap.size w (w.alloc (.cells #[.int .i64 8, .int .u64 w0, .int .u64 w1, .int .u64 w2, .int .u64 w3, .int .i64 xa, .int .i64 xb, .int .i64 m, .int .i64 M, .int .i64 xn] 47)) := (Below.refl _ w).alloc (Nat.le_refl _) _
 have b1 := b0.trans (hB1.mono b0.size)
 go_wp2
 go_ret
 refine ⟨?_, b1⟩
 have := app2 [92] dx
 simpa using this
theorem rprint_two5 (b o0 n cap : Nat) (xs : List Nd) (hn : n ≤ 120) (a c : T) : RPrints b o0 n cap xs (T.two 5 a c) := by
 intro o k w ha he hk hw
 have hr := ha.root
 rw [show o + (T.two 5 a c).size - 1 = k by omega] at hr
 have lb := hw.lt
 have hk1 : (k : Int) < n := by omega
 have ha1 := ha.1
 have hc1 := ha.2.1
 have sa := a.size_pos
 have sc := c.size_pos
 simp only [T.size] at he
 simp only [T.root] at hr
 obtain ⟨pa, hpa⟩ : ∃ pa : Nat, o + a.size = pa + 1 := ⟨o + a.size - 1, by omega⟩
 obtain ⟨pc, hpc⟩ : ∃ pc : Nat, o + a.size + c.size = pc + 1 := ⟨o + a.size + c.size - 1, by omega⟩
 rw [show (o : Int) + a.size - 1 = (pa : Int) by omega, show (o : Int) + a.size + c.size - 1 = (pc : Int) by omega] at hr
 have hcell := hw.cell k _ hr
 have d0 : w.cell? ⟨b, o0 + k * 10, none⟩ = some (.int .i64 5) := hcell 0 _ rfl
 have d1 : w.cell? ⟨b, o0 + k * 10 + 1, none⟩ = some (.int .u64 0) := hcell 1 _ rfl
 have d2 : w.cell? ⟨b, o0 + k * 10 + 2, none⟩ = some (.int .u64 0) := hcell 2 _ rfl
 have d3 : w.cell? ⟨b, o0 + k * 10 + 3, none⟩ = some (.int .u64 0) := hcell 3 _ rfl
 have d4 : w.cell? ⟨b, o0 + k * 10 + 4, none⟩ = some (.int .u64 0) := hcell 4 _ rfl
 have d5 : w.cell? ⟨b, o0 + k * 10 + 5, none⟩ = some (.int .i64 pa) := hcell 5 _ rfl
 have d6 : w.cell? ⟨b, o0 + k * 10 + 6, none⟩ = some (.int .i64 pc) := hcell 6 _ rfl
 have d7 : w.cell? ⟨b, o0 + k * 10 + 7, none⟩ = some (.int .i64 0) := hcell 7 _ rfl
 have d8 : w.cell? ⟨b, o0 + k * 10 + 8, none⟩ = some (.int .i64 0) := hcell 8 _ rfl
 have d9 : w.cell? ⟨b, o0 + k * 10 + 9, none⟩ = some (.int .i64 0) := hcell 9 _ rfl
 have e : textT (T.two 5 a c) = [124] := by simp [textT]
 rw [e]
 clear e hcell hr ha ha1 hc1 hpa hpc
 go_enter Tryz.func15, Tryz.ntmps15
 go_wp2
 go_ret
 exact ⟨rfl, (Below.refl _ w).alloc (Nat.le_refl _) _⟩
theorem rprint_two4 (b o0 n cap : Nat) (xs : List Nd) (hn : n ≤ 120) (a c : T) (oa : a.Ok) (oc : c.Ok) (za : a.size ≤ 1000) (zc : c.size ≤ 1000) (iha : RPrints b o0 n cap xs a) (ihc : RPrints b o0 n cap xs c) : RPrints b o0 n cap xs (T.two 4 a c) := by
 intro o k w ha he hk hw
 have hr := ha.root
 rw [show o + (T.two 4 a c).size - 1 = k by omega] at hr
 have lb := hw.lt
 have hk1 : (k : Int) < n := by omega
 have ha1 := ha.1
 have hc1 := ha.2.1
 have sa := a.size_pos
 have sc := c.size_pos
 simp only [T.size] at he
 simp only [T.root] at hr
 obtain ⟨pa, hpa⟩ : ∃ pa : Nat, o + a.size = pa + 1 := ⟨o + a.size - 1, by omega⟩
 obtain ⟨pc, hpc⟩ : ∃ pc : Nat, o + a.size + c.size = pc + 1 := ⟨o + a.size + c.size - 1, by omega⟩
 rw [show (o : Int) + a.size - 1 = (pa : Int) by omega, show (o : Int) + a.size + c.size - 1 = (pc : Int) by omega] at hr
 have hcell := hw.cell k _ hr
 have d0 : w.cell? ⟨b, o0 + k * 10, none⟩ = some (.int .i64 4) := hcell 0 _ rfl
 have d1 : w.cell? ⟨b, o0 + k * 10 + 1, none⟩ = some (.int .u64 0) := hcell 1 _ rfl
 have d2 : w.cell? ⟨b, o0 + k * 10 + 2, none⟩ = some (.int .u64 0) := hcell 2 _ rfl
 have d3 : w.cell? ⟨b, o0 + k * 10 + 3, none⟩ = some (.int .u64 0) := hcell 3 _ rfl
 have d4 : w.cell? ⟨b, o0 + k * 10 + 4, none⟩ = some (.int .u64 0) := hcell 4 _ rfl
 have d5 : w.cell? ⟨b, o0 + k * 10 + 5, none⟩ = some (.int .i64 pa) := hcell 5 _ rfl
 have d6 : w.cell? ⟨b, o0 + k * 10 + 6, none⟩ = some (.int .i64 pc) := hcell 6 _ rfl
 have d7 : w.cell? ⟨b, o0 + k * 10 + 7, none⟩ = some (.int .i64 0) := hcell 7 _ rfl
 have d8 : w.cell? ⟨b, o0 + k * 10 + 8, none⟩ = some (.int .i64 0) := hcell 8 _ rfl
 have d9 : w.cell? ⟨b, o0 + k * 10 + 9, none⟩ = some (.int .i64 0) := hcell 9 _ rfl
 have IA := Lib.hid fun w' hx => iha o pa w' ha1 hpa (by omega) hx
 have IC := Lib.hid fun w' hx => ihc (o + a.size) pc w' hc1 hpc (by omega) hx
 have la := textT_len a oa
 have lc := textT_len c oc
 have e : textT (T.two 4 a c) = textT a ++ textT c := by simp [textT]
 rw [e]
 have hS0 : TxS w b o0 xs ⟨4, 0, 0, 0, 0, pa, pc, 0, 0, 0⟩ (w.alloc (.cells #[.int .i64 4, .int .u64 0, .int .u64 0, .int .u64 0, .int .u64 0, .int .i64 pa, .int .i64 pc, .int .i64 0, .int .i64 0, .int .i64 0] 47)) := TxS.new hw
 clear e hcell hr ha ha1 hc1 iha ihc oa oc hpa hpc
 generalize textT a = ta at *
 generalize textT c = tc at *
 have hL1 : (9223372036854775807 < ta.length + tc.length) = False := by simp; omega
 go_enter Tryz.func15, Tryz.ntmps15
 go_wp2_with fail
 refine wp_region_noPanic ?_
 refine wp_region_held_drew (S := TxS w b o0 xs ⟨4, 0, 0, 0, 0, pa, pc, 0, 0, 0⟩) (by kernel_rfl) ?_ (fun hHeld => ?_)
 ·(try dsimp only); exact hS0.drew
 refine wpAnyH_take (i := 0) (v := ?_) rfl (by kernel_rfl) (by kernel_rfl) (by kernel_rfl) (fun _ _ _ h => h) (Or.inl ⟨by kernel_rfl, ?_⟩) (by assumption) ?_
 rotate_left
 ·(intro w hSw; (try dsimp only at hSw); go_simp); (try with_reducible rfl)
 try simp only [Act.put, laS]
 refine wpAnyH_take (i := 1) (v := ?_) rfl (by kernel_rfl) (by kernel_rfl) (by kernel_rfl) (fun _ _ _ h => h) (Or.inl ⟨by kernel_rfl, ?_⟩) (by assumption) ?_
 rotate_left
 ·(intro w hSw; (try dsimp only at hSw); go_simp); (try with_reducible rfl)
 try simp only [Act.put, laS]
 refine wpAnyH_take (i := 2) (v := ?_) rfl (by kernel_rfl) (by kernel_rfl) (by kernel_rfl) (fun _ _ _ h => h) (Or.inl ⟨by kernel_rfl, ?_⟩) (by assumption) ?_
 rotate_left
 ·(intro w9 hSw; have z5 : w9.cell? ⟨w.heap.size, 5, none⟩ = some (.int .i64 pa) := (hSw.cell 5).trans rfl; go_simp); (try with_reducible rfl)
 try simp only [Act.put, laS]
 refine wpAnyH_take (i := 4) (v := ?_) rfl (by kernel_rfl) (by kernel_rfl) (by kernel_rfl) (fun _ _ _ h => h) (Or.inl ⟨by kernel_rfl, ?_⟩) (by assumption) ?_
 rotate_left
 ·(intro w hSw; (try dsimp only at hSw); go_simp); (try with_reducible rfl)
 try simp only [Act.put, laS]
 refine wpAnyH_take (i := 5) (v := ?_) rfl (by kernel_rfl) (by kernel_rfl) (by kernel_rfl) (fun _ _ _ h => h) (Or.inl ⟨by kernel_rfl, ?_⟩) (by assumption) ?_
 rotate_left
 ·(intro w hSw; (try dsimp only at hSw); go_simp); (try with_reducible rfl)
 try simp only [Act.put, laS]
 refine wpAnyH_take (i := 6) (v := ?_) rfl (by kernel_rfl) (by kernel_rfl) (by kernel_rfl) (fun _ _ _ h => h) (Or.inl ⟨by kernel_rfl, ?_⟩) (by assumption) ?_
 rotate_left
 ·(intro w9 hSw; have z6 : w9.cell? ⟨w.heap.size, 6, none⟩ = some (.int .i64 pc) := (hSw.cell 6).trans rfl; go_simp); (try with_reducible rfl)
 try simp only [Act.put, laS]
 refine wpAnyH_ready (rs := [3]) (by kernel_rfl) (by simp) ?_
 refine AllReadyH.cons rfl (fun K hK => ?_) ?_
 rotate_left
 ·exact AllReadyH.nil
 go_simp
 refine (IA.out _ hHeld.nodes).mono ?_
 rintro e w1 ⟨rfl, hB⟩
 have hS1 := hHeld.step hB
 clear hB hHeld
 refine hK.out _ _ ?_ (fun hHeld => ?_)
 ·(try dsimp only); exact hS1
 clear hK K
 try simp only [Act.put, laS]
 refine wpAnyH_ready (rs := [7]) (by kernel_rfl) (by simp) ?_
 refine AllReadyH.cons rfl (fun K hK => ?_) ?_
 rotate_left
 ·exact AllReadyH.nil
 go_simp
 refine (IC.out _ hHeld.nodes).mono ?_
 rintro e w2 ⟨rfl, hB⟩
 have hS2 := hHeld.step hB
 clear hB hHeld
 refine hK.out _ _ ?_ (fun hHeld => ?_)
 ·(try dsimp only); exact hS2
 clear hK K
 try simp only [Act.put, laS]
 refine wpAnyH_take (i := 8) (v := ?_) rfl (by kernel_rfl) (by kernel_rfl) (by kernel_rfl) (fun _ _ _ h => h) (Or.inl ⟨by kernel_rfl, ?_⟩) (by assumption) ?_
 rotate_left
 ·(intro w hSw; (try dsimp only at hSw); go_simp); (try with_reducible rfl)
 try simp only [Act.put, laS]
 refine wpAnyH_take (i := 9) (v := ?_) rfl (by kernel_rfl) (by kernel_rfl) (by kernel_rfl) (fun _ _ _ h => h) (Or.inl ⟨by kernel_rfl, ?_⟩) (by assumption) ?_
 rotate_left
 ·(intro w hSw; (try dsimp only at hSw); go_simp); (try with_reducible rfl)
 try simp only [Act.put, laS]
 refine wpAnyH_done (by kernel_rfl) ?_ _
 refine NoPanic.normal ?_
 go_wp2
 go_ret
 refine ⟨?_, hS2.b⟩
 have := app2 ta tc
 simpa using this
theorem rprint_times1 (b o0 n cap : Nat) (xs : List Nd) (hn : n ≤ 120) (m M : Int) (hc : isCnt m M = true) (hz : m = 0 ∧ M = -1) (t : T) (ot : t.Ok) (zt : t.size ≤ 1000) (ih : RPrints b o0 n cap xs t) : RPrints b o0 n cap xs (T.times m M t) := by
 intro o k w ha he hk hw
 have hr := ha.root
 rw [show o + (T.times m M t).size - 1 = k by omega] at hr
 have lb := hw.lt
 have hk1 : (k : Int) < n := by omega
 have ha1 := ha.1
 have sa := t.size_pos
 simp only [T.size] at he
 simp only [T.root] at hr
 obtain ⟨pa, hpa⟩ : ∃ pa : Nat, o + t.size = pa + 1 := ⟨o + t.size - 1, by omega⟩
 rw [show (o : Int) + t.size - 1 = (pa : Int) by omega] at hr
 have hcell := hw.cell k _ hr
 have d0 : w.cell? ⟨b, o0 + k * 10, none⟩ = some (.int .i64 6) := hcell 0 _ rfl
 have d1 : w.cell? ⟨b, o0 + k * 10 + 1, none⟩ = some (.int .u64 0) := hcell 1 _ rfl
 have d2 : w.cell? ⟨b, o0 + k * 10 + 2, none⟩ = some (.int .u64 0) := hcell 2 _ rfl
 have d3 : w.cell? ⟨b, o0 + k * 10 + 3, none⟩ = some (.int .u64 0) := hcell 3 _ rfl
 have d4 : w.cell? ⟨b, o0 + k * 10 + 4, none⟩ = some (.int .u64 0) := hcell 4 _ rfl
 have d5 : w.cell? ⟨b, o0 + k * 10 + 5, none⟩ = some (.int .i64 pa) := hcell 5 _ rfl
 have d6 : w.cell? ⟨b, o0 + k * 10 + 6, none⟩ = some (.int .i64 0) := hcell 6 _ rfl
 have d7 : w.cell? ⟨b, o0 + k * 10 + 7, none⟩ = some (.int .i64 m) := hcell 7 _ rfl
 have d8 : w.cell? ⟨b, o0 + k * 10 + 8, none⟩ = some (.int .i64 M) := hcell 8 _ rfl
 have d9 : w.cell? ⟨b, o0 + k * 10 + 9, none⟩ = some (.int .i64 0) := hcell 9 _ rfl
 have hcn := cnt_of hc
 have IA := Lib.hid fun w' hx => ih o pa w' ha1 hpa (by omega) hx
 have D1 := Lib.hid fun w' => digits_c m (by omega) (by omega) w'
 have D2 := Lib.hid fun w' => digits_c M (by omega) (by omega) w'
 have la := textT_len t ot
 have dl : ∀ i : Int, -1 ≤ i → i ≤ 255 → (itoa i).length ≤ 1000 := fun i h0 h1 => by
  by_cases hi : i = -1
  ·subst hi; rw [itoa_m']; simp
  ·obtain ⟨q, rfl⟩ : ∃ q : Nat, i = q := ⟨i.toNat, by omega⟩
   have e : itoa (q : Int) = Lib.decDigits q := by unfold itoa; rw [if_neg (by omega)]; simp
   rw [e]
   have := dec_len q
   omega
 have l1 := dl m (by omega) (by omega)
 have l2 := dl M (by omega) (by omega)
 have q1 : ((m : Int) == 0) = true := by rw [hz.1]; rfl
 have q2 : ((M : Int) == -1) = true := by rw [hz.2]; rfl
 have e : textT (T.times m M t) = textT t ++ [42] := by
  show textT t ++ timesT m M = _
  unfold timesT
  rw [if_pos hz]
 rw [e]
 have hS0 : TxS w b o0 xs ⟨6, 0, 0, 0, 0, pa, 0, m, M, 0⟩ (w.alloc (.cells #[.int .i64 6, .int .u64 0, .int .u64 0, .int .u64 0, .int .u64 0, .int .i64 pa, .int .i64 0, .int .i64 m, .int .i64 M, .int .i64 0] 47)) := TxS.new hw
 clear e hcell hr ha ha1 ih ot hpa dl hc hcn hz
 generalize textT t = ta at *
 generalize itoa m = i1 at *
 generalize itoa M = i2 at *
 go_enter Tryz.func15, Tryz.ntmps15
 go_wp2_with fail
 refine (IA.out _ hS0.nodes).mono ?_
 rintro e w1 ⟨rfl, hB⟩
 have hS1 := hS0.step hB
 clear hB hS0
 have y7 : w1.cell? ⟨w.heap.size, 7, none⟩ = some (.int .i64 m) := (hS1.cell 7).trans rfl
 have y8 : w1.cell? ⟨w.heap.size, 8, none⟩ = some (.int .i64 M) := (hS1.cell 8).trans rfl
 have hL1 : (9223372036854775807 < ta.length + 1) = False := by simp; omega
 go_wp2_with fail
 go_ret
 refine ⟨?_, hS1.b⟩
 apply congrArg Ending.returned
 apply congrArg Value.string
 apply ByteArray.ext
 apply Array.ext'
 simp
theorem rprint_times2 (b o0 n cap : Nat) (xs : List Nd) (hn : n ≤ 120) (m M : Int) (hc : isCnt m M = true) (hz : ¬ (m = 0 ∧ M = -1)) (hq : M = m) (t : T) (ot : t.Ok) (zt : t.size ≤ 1000) (ih : RPrints b o0 n cap xs t) : RPrints b o0 n cap xs (T.times m M t) := by
 intro o k w ha he hk hw
 have hr := ha.root
 rw [show o + (T.times m M t).size - 1 = k by omega] at hr
 have lb := hw.lt
 have hk1 : (k : Int) < n := by omega
 have ha1 := ha.1
 have sa := t.size_pos
 simp only [T.size] at he
 simp only [T.root] at hr
 obtain ⟨pa, hpa⟩ : ∃ pa : Nat, o + t.size = pa + 1 := ⟨o + t.size - 1, by omega⟩
 rw [show (o : Int) + t.size - 1 = (pa : Int) by omega] at hr
 have hcell := hw.cell k _ hr
 have d0 : w.cell? ⟨b, o0 + k * 10, none⟩ = some (.int .i64 6) := hcell 0 _ rfl
 have d1 : w.cell? ⟨b, o0 + k * 10 + 1, none⟩ = some (.int .u64 0) := hcell 1 _ rfl
 have d2 : w.cell? ⟨b, o0 + k * 10 + 2, none⟩ = some (.int .u64 0) := hcell 2 _ rfl
 have d3 : w.cell? ⟨b, o0 + k * 10 + 3, none⟩ = some (.int .u64 0) := hcell 3 _ rfl
 have d4 : w.cell? ⟨b, o0 + k * 10 + 4, none⟩ = some (.int .u64 0) := hcell 4 _ rfl
 have d5 : w.cell? ⟨b, o0 + k * 10 + 5, none⟩ = some (.int .i64 pa) := hcell 5 _ rfl
 have d6 : w.cell? ⟨b, o0 + k * 10 + 6, none⟩ = some (.int .i64 0) := hcell 6 _ rfl
 have d7 : w.cell? ⟨b, o0 + k * 10 + 7, none⟩ = some (.int .i64 m) := hcell 7 _ rfl
 have d8 : w.cell? ⟨b, o0 + k * 10 + 8, none⟩ = some (.int .i64 M) := hcell 8 _ rfl
 have d9 : w.cell? ⟨b, o0 + k * 10 + 9, none⟩ = some (.int .i64 0) := hcell 9 _ rfl
 have hcn := cnt_of hc
 have IA := Lib.hid fun w' hx => ih o pa w' ha1 hpa (by omega) hx
 have D1 := Lib.hid fun w' => digits_c m (by omega) (by omega) w'
 have D2 := Lib.hid fun w' => digits_c M (by omega) (by omega) w'
 have la := textT_len t ot
 have dl : ∀ i : Int, -1 ≤ i → i ≤ 255 → (itoa i).length ≤ 1000 := fun i h0 h1 => by
  by_cases hi : i = -1
  ·subst hi; rw [itoa_m']; simp
  ·obtain ⟨q, rfl⟩ : ∃ q : Nat, i = q := ⟨i.toNat, by omega⟩
   have e : itoa (q : Int) = Lib.decDigits q := by unfold itoa; rw [if_neg (by omega)]; simp
   rw [e]
   have := dec_len q
   omega
 have l1 := dl m (by omega) (by omega)
 have l2 := dl M (by omega) (by omega)
 have hm : 0 ≤ m := by have := cnt_of hc; omega
 have q2 : ((M : Int) == -1) = false := by rw [beq_eq_false_iff_ne]; omega
 have q3 : ((m : Int) == M) = true := by rw [hq]; simp
 have e : textT (T.times m M t) = textT t ++ ([92, 123] ++ itoa m ++ [92, 125]) := by
  show textT t ++ timesT m M = _
  unfold timesT
  rw [if_neg hz, if_pos hq]
 rw [e]
 have hS0 : TxS w b o0 xs ⟨6, 0, 0, 0, 0, pa, 0, m, M, 0⟩ (w.alloc (.cells #[.int .i64 6, .int .u64 0, .int .u64 0, .int .u64 0, .int .u64 0, .int .i64 pa, .int .i64 0, .int .i64 m, .int .i64 M, .int .i64 0] 47)) := TxS.new hw
 clear e hcell hr ha ha1 ih ot hpa dl hc hcn hz hq
 generalize textT t = ta at *
 generalize itoa m = i1 at *
 generalize itoa M = i2 at *
 go_enter Tryz.func15, Tryz.ntmps15
 go_wp2_with fail
 refine (IA.out _ hS0.nodes).mono ?_
 rintro e w1 ⟨rfl, hB⟩
 have hS1 := hS0.step hB
 clear hB hS0
 have y7 : w1.cell? ⟨w.heap.size, 7, none⟩ = some (.int .i64 m) := (hS1.cell 7).trans rfl
 have y8 : w1.cell? ⟨w.heap.size, 8, none⟩ = some (.int .i64 M) := (hS1.cell 8).trans rfl
 have hL1 : (9223372036854775807 < ta.length + 2) = False := by simp; omega
 have hL2 : (9223372036854775807 < ta.length + 2 + i1.length) = False := by simp; omega
 have hL3 : (9223372036854775807 < ta.length + 2 + i1.length + 2) = False := by simp; omega
 by_cases h0 : m = 0
 ·have q1 : ((m : Int) == 0) = true := by rw [h0]; rfl
  clear h0
  go_wp2_with fail
  refine (D1.out _).mono ?_
  rintro e w2 ⟨rfl, hB⟩
  have hS2 := hS1.step hB
  clear hB hS1
  go_wp2
  go_ret
  refine ⟨?_, hS2.b⟩
  apply congrArg Ending.returned
  apply congrArg Value.string
  apply ByteArray.ext
  apply Array.ext'
  simp
 ·have q1 : ((m : Int) == 0) = false := by rw [beq_eq_false_iff_ne]; omega
  clear h0
  go_wp2_with fail
  refine (D1.out _).mono ?_
  rintro e w2 ⟨rfl, hB⟩
  have hS2 := hS1.step hB
  clear hB hS1
  go_wp2
  go_ret
  refine ⟨?_, hS2.b⟩
  apply congrArg Ending.returned
  apply congrArg Value.string
  apply ByteArray.ext
  apply Array.ext'
  simp
theorem rprint_times3 (b o0 n cap : Nat) (xs : List Nd) (hn : n ≤ 120) (m M : Int) (hc : isCnt m M = true) (hz : m ≠ 0) (hq : M = -1) (t : T) (ot : t.Ok) (zt : t.size ≤ 1000) (ih : RPrints b o0 n cap xs t) : RPrints b o0 n cap xs (T.times m M t) := by
 intro o k w ha he hk hw
 have hr := ha.root
 rw [show o + (T.times m M t).size - 1 = k by omega] at hr
 have lb := hw.lt
 have hk1 : (k : Int) < n := by omega
 have ha1 := ha.1
 have sa := t.size_pos
 simp only [T.size] at he
 simp only [T.root] at hr
 obtain ⟨pa, hpa⟩ : ∃ pa : Nat, o + t.size = pa + 1 := ⟨o + t.size - 1, by omega⟩
 rw [show (o : Int) + t.size - 1 = (pa : Int) by omega] at hr
 have hcell := hw.cell k _ hr
 have d0 : w.cell? ⟨b, o0 + k * 10, none⟩ = some (.int .i64 6) := hcell 0 _ rfl
 have d1 : w.cell? ⟨b, o0 + k * 10 + 1, none⟩ = some (.int .u64 0) := hcell 1 _ rfl
 have d2 : w.cell? ⟨b, o0 + k * 10 + 2, none⟩ = some (.int .u64 0) := hcell 2 _ rfl
 have d3 : w.cell? ⟨b, o0 + k * 10 + 3, none⟩ = some (.int .u64 0) := hcell 3 _ rfl
 have d4 : w.cell? ⟨b, o0 + k * 10 + 4, none⟩ = some (.int .u64 0) := hcell 4 _ rfl
 have d5 : w.cell? ⟨b, o0 + k * 10 + 5, none⟩ = some (.int .i64 pa) := hcell 5 _ rfl
 have d6 : w.cell? ⟨b, o0 + k * 10 + 6, none⟩ = some (.int .i64 0) := hcell 6 _ rfl
 have d7 : w.cell? ⟨b, o0 + k * 10 + 7, none⟩ = some (.int .i64 m) := hcell 7 _ rfl
 have d8 : w.cell? ⟨b, o0 + k * 10 + 8, none⟩ = some (.int .i64 M) := hcell 8 _ rfl
 have d9 : w.cell? ⟨b, o0 + k * 10 + 9, none⟩ = some (.int .i64 0) := hcell 9 _ rfl
 have hcn := cnt_of hc
 have IA := Lib.hid fun w' hx => ih o pa w' ha1 hpa (by omega) hx
 have D1 := Lib.hid fun w' => digits_c m (by omega) (by omega) w'
 have D2 := Lib.hid fun w' => digits_c M (by omega) (by omega) w'
 have la := textT_len t ot
 have dl : ∀ i : Int, -1 ≤ i → i ≤ 255 → (itoa i).length ≤ 1000 := fun i h0 h1 => by
  by_cases hi : i = -1
  ·subst hi; rw [itoa_m']; simp
  ·obtain ⟨q, rfl⟩ : ∃ q : Nat, i = q := ⟨i.toNat, by omega⟩
   have e : itoa (q : Int) = Lib.decDigits q := by unfold itoa; rw [if_neg (by omega)]; simp
   rw [e]
   have := dec_len q
   omega
 have l1 := dl m (by omega) (by omega)
 have l2 := dl M (by omega) (by omega)
 have hm : 0 ≤ m := by have := cnt_of hc; omega
 have q1 : ((m : Int) == 0) = false := by rw [beq_eq_false_iff_ne]; omega
 have q2 : ((M : Int) == -1) = true := by rw [hq]; rfl
 have q3 : ((m : Int) == M) = false := by rw [beq_eq_false_iff_ne]; omega
 have e : textT (T.times m M t) = textT t ++ ([92, 123] ++ (itoa m ++ [44]) ++ [92, 125]) := by
  show textT t ++ timesT m M = _
  unfold timesT
  rw [if_neg (by omega), if_neg (by omega), if_pos hq]
 rw [e]
 have hS0 : TxS w b o0 xs ⟨6, 0, 0, 0, 0, pa, 0, m, M, 0⟩ (w.alloc (.cells #[.int .i64 6, .int .u64 0, .int .u64 0, .int .u64 0, .int .u64 0, .int .i64 pa, .int .i64 0, .int .i64 m, .int .i64 M, .int .i64 0] 47)) := TxS.new hw
 clear e hcell hr ha ha1 ih ot hpa dl hc hcn hz hq
 generalize textT t = ta at *
 generalize itoa m = i1 at *
 generalize itoa M = i2 at *
 go_enter Tryz.func15, Tryz.ntmps15
 go_wp2_with fail
 refine (IA.out _ hS0.nodes).mono ?_
 rintro e w1 ⟨rfl, hB⟩
 have hS1 := hS0.step hB
 clear hB hS0
 have y7 : w1.cell? ⟨w.heap.size, 7, none⟩ = some (.int .i64 m) := (hS1.cell 7).trans rfl
 have y8 : w1.cell? ⟨w.heap.size, 8, none⟩ = some (.int .i64 M) := (hS1.cell 8).trans rfl
 have hL1 : (9223372036854775807 < ta.length + 2) = False := by simp; omega
 have hL2 : (9223372036854775807 < ta.length + 2 + i1.length) = False := by simp; omega
 have hL3 : (9223372036854775807 < ta.length + 2 + i1.length + 3) = False := by simp; omega
 go_wp2_with fail
 refine (D1.out _).mono ?_
 rintro e w2 ⟨rfl, hB⟩
 have hS2 := hS1.step hB
 clear hB hS1
 go_wp2
 go_ret
 refine ⟨?_, hS2.b⟩
 apply congrArg Ending.returned
 apply congrArg Value.string
 apply ByteArray.ext
 apply Array.ext'
 simp
theorem rprint_times4 (b o0 n cap : Nat) (xs : List Nd) (hn : n ≤ 120) (m M : Int) (hc : isCnt m M = true) (hq : M ≠ m) (hn : M ≠ -1) (t : T) (ot : t.Ok) (zt : t.size ≤ 1000) (ih : RPrints b o0 n cap xs t) : RPrints b o0 n cap xs (T.times m M t) := by
 intro o k w ha he hk hw
 have hr := ha.root
 rw [show o + (T.times m M t).size - 1 = k by omega] at hr
 have lb := hw.lt
 have hk1 : (k : Int) < n := by omega
 have ha1 := ha.1
 have sa := t.size_pos
 simp only [T.size] at he
 simp only [T.root] at hr
 obtain ⟨pa, hpa⟩ : ∃ pa : Nat, o + t.size = pa + 1 := ⟨o + t.size - 1, by omega⟩
 rw [show (o : Int) + t.size - 1 = (pa : Int) by omega] at hr
 have hcell := hw.cell k _ hr
 have d0 : w.cell? ⟨b, o0 + k * 10, none⟩ = some (.int .i64 6) := hcell 0 _ rfl
 have d1 : w.cell? ⟨b, o0 + k * 10 + 1, none⟩ = some (.int .u64 0) := hcell 1 _ rfl
 have d2 : w.cell? ⟨b, o0 + k * 10 + 2, none⟩ = some (.int .u64 0) := hcell 2 _ rfl
 have d3 : w.cell? ⟨b, o0 + k * 10 + 3, none⟩ = some (.int .u64 0) := hcell 3 _ rfl
 have d4 : w.cell? ⟨b, o0 + k * 10 + 4, none⟩ = some (.int .u64 0) := hcell 4 _ rfl
 have d5 : w.cell? ⟨b, o0 + k * 10 + 5, none⟩ = some (.int .i64 pa) := hcell 5 _ rfl
 have d6 : w.cell? ⟨b, o0 + k * 10 + 6, none⟩ = some (.int .i64 0) := hcell 6 _ rfl
 have d7 : w.cell? ⟨b, o0 + k * 10 + 7, none⟩ = some (.int .i64 m) := hcell 7 _ rfl
 have d8 : w.cell? ⟨b, o0 + k * 10 + 8, none⟩ = some (.int .i64 M) := hcell 8 _ rfl
 have d9 : w.cell? ⟨b, o0 + k * 10 + 9, none⟩ = some (.int .i64 0) := hcell 9 _ rfl
 have hcn := cnt_of hc
 have IA := Lib.hid fun w' hx => ih o pa w' ha1 hpa (by omega) hx
 have D1 := Lib.hid fun w' => digits_c m (by omega) (by omega) w'
 have D2 := Lib.hid fun w' => digits_c M (by omega) (by omega) w'
 have la := textT_len t ot
 have dl : ∀ i : Int, -1 ≤ i → i ≤ 255 → (itoa i).length ≤ 1000 := fun i h0 h1 => by
  by_cases hi : i = -1
  ·subst hi; rw [itoa_m']; simp
  ·obtain ⟨q, rfl⟩ : ∃ q : Nat, i = q := ⟨i.toNat, by omega⟩
   have e : itoa (q : Int) = Lib.decDigits q := by unfold itoa; rw [if_neg (by omega)]; simp
   rw [e]
   have := dec_len q
   omega
 have l1 := dl m (by omega) (by omega)
 have l2 := dl M (by omega) (by omega)
 have q2 : ((M : Int) == -1) = false := by rw [beq_eq_false_iff_ne]; omega
 have q3 : ((m : Int) == M) = false := by rw [beq_eq_false_iff_ne]; omega
 have e : textT (T.times m M t) = textT t ++ ([92, 123] ++ (itoa m ++ [44] ++ itoa M) ++ [92, 125]) := by
  show textT t ++ timesT m M = _
  unfold timesT
  rw [if_neg (by omega), if_neg hq, if_neg hn]
 rw [e]
 have hS0 : TxS w b o0 xs ⟨6, 0, 0, 0, 0, pa, 0, m, M, 0⟩ (w.alloc (.cells #[.int .i64 6, .int .u64 0, .int .u64 0, .int .u64 0, .int .u64 0, .int .i64 pa, .int .i64 0, .int .i64 m, .int .i64 M, .int .i64 0] 47)) := TxS.new hw
 clear e hcell hr ha ha1 ih ot hpa dl hc hcn hq hn
 generalize textT t = ta at *
 generalize itoa m = i1 at *
 generalize itoa M = i2 at *
 go_enter Tryz.func15, Tryz.ntmps15
 go_wp2_with fail
 refine (IA.out _ hS0.nodes).mono ?_
 rintro e w1 ⟨rfl, hB⟩
 have hS1 := hS0.step hB
 clear hB hS0
 have y7 : w1.cell? ⟨w.heap.size, 7, none⟩ = some (.int .i64 m) := (hS1.cell 7).trans rfl
 have y8 : w1.cell? ⟨w.heap.size, 8, none⟩ = some (.int .i64 M) := (hS1.cell 8).trans rfl
 have hL1 : (9223372036854775807 < ta.length + 2) = False := by simp; omega
 have hL2 : (9223372036854775807 < ta.length + 2 + i1.length) = False := by simp; omega
 have hL3 : (9223372036854775807 < ta.length + 2 + i1.length + 1) = False := by simp; omega
 have hL4 : (9223372036854775807 < ta.length + 2 + i1.length + 1 + i2.length) = False := by simp; omega
 have hL5 : (9223372036854775807 < ta.length + 2 + i1.length + 1 + i2.length + 2) = False := by simp; omega
 by_cases h0 : m = 0
 ·have q1 : ((m : Int) == 0) = true := by rw [h0]; rfl
  clear h0
  go_wp2_with fail
  refine wp_region_noPanic ?_
  refine wp_region_held_drew (S := TxS w b o0 xs ⟨6, 0, 0, 0, 0, pa, 0, m, M, 0⟩) (by kernel_rfl) ?_ (fun hHeld => ?_)
  ·(try dsimp only); exact hS1.drew
  refine wpAnyH_take (i := 0) (v := ?_) rfl (by kernel_rfl) (by kernel_rfl) (by kernel_rfl) (fun _ _ _ h => h) (Or.inl ⟨by kernel_rfl, ?_⟩) (by assumption) ?_
  rotate_left
  ·(intro w hSw; (try dsimp only at hSw); go_simp); (try with_reducible rfl)
  try simp only [Act.put, laS]
  refine wpAnyH_take (i := 1) (v := ?_) rfl (by kernel_rfl) (by kernel_rfl) (by kernel_rfl) (fun _ _ _ h => h) (Or.inl ⟨by kernel_rfl, ?_⟩) (by assumption) ?_
  rotate_left
  ·(intro w hSw; (try dsimp only at hSw); go_simp); (try with_reducible rfl)
  try simp only [Act.put, laS]
  refine wpAnyH_take (i := 2) (v := ?_) rfl (by kernel_rfl) (by kernel_rfl) (by kernel_rfl) (fun _ _ _ h => h) (Or.inl ⟨by kernel_rfl, ?_⟩) (by assumption) ?_
  rotate_left
  ·(intro w hSw; (try dsimp only at hSw); go_simp); (try with_reducible rfl)
  try simp only [Act.put, laS]
  refine wpAnyH_take (i := 3) (v := ?_) rfl (by kernel_rfl) (by kernel_rfl) (by kernel_rfl) (fun _ _ _ h => h) (Or.inl ⟨by kernel_rfl, ?_⟩) (by assumption) ?_
  rotate_left
  ·(intro w9 hSw; have z7 : w9.cell? ⟨w.heap.size, 7, none⟩ = some (.int .i64 m) := (hSw.cell 7).trans rfl; go_simp); (try with_reducible rfl)
  try simp only [Act.put, laS]
  refine wpAnyH_take (i := 7) (v := ?_) rfl (by kernel_rfl) (by kernel_rfl) (by kernel_rfl) (fun _ _ _ h => h) (Or.inl ⟨by kernel_rfl, ?_⟩) (by assumption) ?_
  rotate_left
  ·(intro w hSw; (try dsimp only at hSw); go_simp); (try with_reducible rfl)
  try simp only [Act.put, laS]
  refine wpAnyH_take (i := 8) (v := ?_) rfl (by kernel_rfl) (by kernel_rfl) (by kernel_rfl) (fun _ _ _ h => h) (Or.inl ⟨by kernel_rfl, ?_⟩) (by assumption) ?_
  rotate_left
  ·(intro w9 hSw; have z8 : w9.cell? ⟨w.heap.size, 8, none⟩ = some (.int .i64 M) := (hSw.cell 8).trans rfl; go_simp); (try with_reducible rfl)
  try simp only [Act.put, laS]
  refine wpAnyH_ready (rs := [4]) (by kernel_rfl) (by simp) ?_
  refine AllReadyH.cons rfl (fun K hK => ?_) ?_
  rotate_left
  ·exact AllReadyH.nil
  go_simp
  refine (D1.out _).mono ?_
  rintro e w2 ⟨rfl, hB⟩
  have hS2 := hHeld.step hB
  clear hB hHeld
  refine hK.out _ _ ?_ (fun hHeld => ?_)
  ·(try dsimp only); exact hS2
  clear hK K
  try simp only [Act.put, laS]
  refine wpAnyH_take (i := 5) (v := ?_) rfl (by kernel_rfl) (by kernel_rfl) (by kernel_rfl) (fun _ _ _ h => h) (Or.inl ⟨by kernel_rfl, ?_⟩) (by assumption) ?_
  rotate_left
  ·(intro w hSw; (try dsimp only at hSw); go_simp); (try with_reducible rfl)
  try simp only [Act.put, laS]
  refine wpAnyH_take (i := 6) (v := ?_) rfl (by kernel_rfl) (by kernel_rfl) (by kernel_rfl) (fun _ _ _ h => h) (Or.inl ⟨by kernel_rfl, ?_⟩) (by assumption) ?_
  rotate_left
  ·(intro w hSw; (try dsimp only at hSw); go_simp); (try with_reducible rfl)
  try simp only [Act.put, laS]
  refine wpAnyH_ready (rs := [9]) (by kernel_rfl) (by simp) ?_
  refine AllReadyH.cons rfl (fun K hK => ?_) ?_
  rotate_left
  ·exact AllReadyH.nil
  go_simp
  refine (D2.out _).mono ?_
  rintro e w3 ⟨rfl, hB⟩
  have hS3 := hHeld.step hB
  clear hB hHeld
  refine hK.out _ _ ?_ (fun hHeld => ?_)
  ·(try dsimp only); exact hS3
  clear hK K
  try simp only [Act.put, laS]
  refine wpAnyH_take (i := 10) (v := ?_) rfl (by kernel_rfl) (by kernel_rfl) (by kernel_rfl) (fun _ _ _ h => h) (Or.inl ⟨by kernel_rfl, ?_⟩) (by assumption) ?_
  rotate_left
  ·(intro w hSw; (try dsimp only at hSw); go_simp); (try with_reducible rfl)
  try simp only [Act.put, laS]
  refine wpAnyH_take (i := 11) (v := ?_) rfl (by kernel_rfl) (by kernel_rfl) (by kernel_rfl) (fun _ _ _ h => h) (Or.inl ⟨by kernel_rfl, ?_⟩) (by assumption) ?_
  rotate_left
  ·(intro w hSw; (try dsimp only at hSw); go_simp); (try with_reducible rfl)
  try simp only [Act.put, laS]
  refine wpAnyH_take (i := 12) (v := ?_) rfl (by kernel_rfl) (by kernel_rfl) (by kernel_rfl) (fun _ _ _ h => h) (Or.inl ⟨by kernel_rfl, ?_⟩) (by assumption) ?_
  rotate_left
  ·(intro w hSw; (try dsimp only at hSw); go_simp); (try with_reducible rfl)
  try simp only [Act.put, laS]
  refine wpAnyH_done (by kernel_rfl) ?_ _
  refine NoPanic.normal ?_
  go_wp2
  go_ret
  refine ⟨?_, hS3.b⟩
  apply congrArg Ending.returned
  apply congrArg Value.string
  apply ByteArray.ext
  apply Array.ext'
  simp
 ·have q1 : ((m : Int) == 0) = false := by rw [beq_eq_false_iff_ne]; omega
  clear h0
  go_wp2_with fail
  refine wp_region_noPanic ?_
  refine wp_region_held_drew (S := TxS w b o0 xs ⟨6, 0, 0, 0, 0, pa, 0, m, M, 0⟩) (by kernel_rfl) ?_ (fun hHeld => ?_)
  ·(try dsimp only); exact hS1.drew
  refine wpAnyH_take (i := 0) (v := ?_) rfl (by kernel_rfl) (by kernel_rfl) (by kernel_rfl) (fun _ _ _ h => h) (Or.inl ⟨by kernel_rfl, ?_⟩) (by assumption) ?_
  rotate_left
  ·(intro w hSw; (try dsimp only at hSw); go_simp); (try with_reducible rfl)
  try simp only [Act.put, laS]
  refine wpAnyH_take (i := 1) (v := ?_) rfl (by kernel_rfl) (by kernel_rfl) (by kernel_rfl) (fun _ _ _ h => h) (Or.inl ⟨by kernel_rfl, ?_⟩) (by assumption) ?_
  rotate_left
  ·(intro w hSw; (try dsimp only at hSw); go_simp); (try with_reducible rfl)
  try simp only [Act.put, laS]
  refine wpAnyH_take (i := 2) (v := ?_) rfl (by kernel_rfl) (by kernel_rfl) (by kernel_rfl) (fun _ _ _ h => h) (Or.inl ⟨by kernel_rfl, ?_⟩) (by assumption) ?_
  rotate_left
  ·(intro w hSw; (try dsimp only at hSw); go_simp); (try with_reducible rfl)
  try simp only [Act.put, laS]
  refine wpAnyH_take (i := 3) (v := ?_) rfl (by kernel_rfl) (by kernel_rfl) (by kernel_rfl) (fun _ _ _ h => h) (Or.inl ⟨by kernel_rfl, ?_⟩) (by assumption) ?_
  rotate_left
  ·(intro w9 hSw; have z7 : w9.cell? ⟨w.heap.size, 7, none⟩ = some (.int .i64 m) := (hSw.cell 7).trans rfl; go_simp); (try with_reducible rfl)
  try simp only [Act.put, laS]
  refine wpAnyH_take (i := 7) (v := ?_) rfl (by kernel_rfl) (by kernel_rfl) (by kernel_rfl) (fun _ _ _ h => h) (Or.inl ⟨by kernel_rfl, ?_⟩) (by assumption) ?_
  rotate_left
  ·(intro w hSw; (try dsimp only at hSw); go_simp); (try with_reducible rfl)
  try simp only [Act.put, laS]
  refine wpAnyH_take (i := 8) (v := ?_) rfl (by kernel_rfl) (by kernel_rfl) (by kernel_rfl) (fun _ _ _ h => h) (Or.inl ⟨by kernel_rfl, ?_⟩) (by assumption) ?_
  rotate_left
  ·(intro w9 hSw; have z8 : w9.cell? ⟨w.heap.size, 8, none⟩ = some (.int .i64 M) := (hSw.cell 8).trans rfl; go_simp); (try with_reducible rfl)
  try simp only [Act.put, laS]
  refine wpAnyH_ready (rs := [4]) (by kernel_rfl) (by simp) ?_
  refine AllReadyH.cons rfl (fun K hK => ?_) ?_
  rotate_left
  ·exact AllReadyH.nil
  go_simp
  refine (D1.out _).mono ?_
  rintro e w2 ⟨rfl, hB⟩
  have hS2 := hHeld.step hB
  clear hB hHeld
  refine hK.out _ _ ?_ (fun hHeld => ?_)
  ·(try dsimp only); exact hS2
  clear hK K
  try simp only [Act.put, laS]
  refine wpAnyH_take (i := 5) (v := ?_) rfl (by kernel_rfl) (by kernel_rfl) (by kernel_rfl) (fun _ _ _ h => h) (Or.inl ⟨by kernel_rfl, ?_⟩) (by assumption) ?_
  rotate_left
  ·(intro w hSw; (try dsimp only at hSw); go_simp); (try with_reducible rfl)
  try simp only [Act.put, laS]
  refine wpAnyH_take (i := 6) (v := ?_) rfl (by kernel_rfl) (by kernel_rfl) (by kernel_rfl) (fun _ _ _ h => h) (Or.inl ⟨by kernel_rfl, ?_⟩) (by assumption) ?_
  rotate_left
  ·(intro w hSw; (try dsimp only at hSw); go_simp); (try with_reducible rfl)
  try simp only [Act.put, laS]
  refine wpAnyH_ready (rs := [9]) (by kernel_rfl) (by simp) ?_
  refine AllReadyH.cons rfl (fun K hK => ?_) ?_
  rotate_left
  ·exact AllReadyH.nil
  go_simp
  refine (D2.out _).mono ?_
  rintro e w3 ⟨rfl, hB⟩
  have hS3 := hHeld.step hB
  clear hB hHeld
  refine hK.out _ _ ?_ (fun hHeld => ?_)
  ·(try dsimp only); exact hS3
  clear hK K
  try simp only [Act.put, laS]
  refine wpAnyH_take (i := 10) (v := ?_) rfl (by kernel_rfl) (by kernel_rfl) (by kernel_rfl) (fun _ _ _ h => h) (Or.inl ⟨by kernel_rfl, ?_⟩) (by assumption) ?_
  rotate_left
  ·(intro w hSw; (try dsimp only at hSw); go_simp); (try with_reducible rfl)
  try simp only [Act.put, laS]
  refine wpAnyH_take (i := 11) (v := ?_) rfl (by kernel_rfl) (by kernel_rfl) (by kernel_rfl) (fun _ _ _ h => h) (Or.inl ⟨by kernel_rfl, ?_⟩) (by assumption) ?_
  rotate_left
  ·(intro w hSw; (try dsimp only at hSw); go_simp); (try with_reducible rfl)
  try simp only [Act.put, laS]
  refine wpAnyH_take (i := 12) (v := ?_) rfl (by kernel_rfl) (by kernel_rfl) (by kernel_rfl) (fun _ _ _ h => h) (Or.inl ⟨by kernel_rfl, ?_⟩) (by assumption) ?_
  rotate_left
  ·(intro w hSw; (try dsimp only at hSw); go_simp); (try with_reducible rfl)
  try simp only [Act.put, laS]
  refine wpAnyH_done (by kernel_rfl) ?_ _
  refine NoPanic.normal ?_
  go_wp2
  go_ret
  refine ⟨?_, hS3.b⟩
  apply congrArg Ending.returned
  apply congrArg Value.string
  apply ByteArray.ext
  apply Array.ext'
  simp
theorem rprint_group (b o0 n cap : Nat) (xs : List Nd) (hn : n ≤ 120) (xn : Int) (t : T) (ot : t.Ok) (zt : t.size ≤ 1000) (ih : RPrints b o0 n cap xs t) : RPrints b o0 n cap xs (T.group xn t) := by
 intro o k w ha he hk hw
 have hr := ha.root
 rw [show o + (T.group xn t).size - 1 = k by omega] at hr
 have lb := hw.lt
 have hk1 : (k : Int) < n := by omega
 have ha1 := ha.1
 have sa := t.size_pos
 simp only [T.size] at he
 simp only [T.root] at hr
 obtain ⟨pa, hpa⟩ : ∃ pa : Nat, o + t.size = pa + 1 := ⟨o + t.size - 1, by omega⟩
 rw [show (o : Int) + t.size - 1 = (pa : Int) by omega] at hr
 have hcell := hw.cell k _ hr
 have d0 : w.cell? ⟨b, o0 + k * 10, none⟩ = some (.int .i64 7) := hcell 0 _ rfl
 have d1 : w.cell? ⟨b, o0 + k * 10 + 1, none⟩ = some (.int .u64 0) := hcell 1 _ rfl
 have d2 : w.cell? ⟨b, o0 + k * 10 + 2, none⟩ = some (.int .u64 0) := hcell 2 _ rfl
 have d3 : w.cell? ⟨b, o0 + k * 10 + 3, none⟩ = some (.int .u64 0) := hcell 3 _ rfl
 have d4 : w.cell? ⟨b, o0 + k * 10 + 4, none⟩ = some (.int .u64 0) := hcell 4 _ rfl
 have d5 : w.cell? ⟨b, o0 + k * 10 + 5, none⟩ = some (.int .i64 pa) := hcell 5 _ rfl
 have d6 : w.cell? ⟨b, o0 + k * 10 + 6, none⟩ = some (.int .i64 0) := hcell 6 _ rfl
 have d7 : w.cell? ⟨b, o0 + k * 10 + 7, none⟩ = some (.int .i64 0) := hcell 7 _ rfl
 have d8 : w.cell? ⟨b, o0 + k * 10 + 8, none⟩ = some (.int .i64 0) := hcell 8 _ rfl
 have d9 : w.cell? ⟨b, o0 + k * 10 + 9, none⟩ = some (.int .i64 xn) := hcell 9 _ rfl
 have IA := Lib.hid fun w' hx => ih o pa w' ha1 hpa (by omega) hx
 have la := textT_len t ot
 have e : textT (T.group xn t) = [92, 40] ++ textT t ++ [92, 41] := rfl
 rw [e]
 have hS0 : TxS w b o0 xs ⟨7, 0, 0, 0, 0, pa, 0, 0, 0, xn⟩ (w.alloc (.cells #[.int .i64 7, .int .u64 0, .int .u64 0, .int .u64 0, .int .u64 0, .int .i64 pa, .int .i64 0, .int .i64 0, .int .i64 0, .int .i64 xn] 47)) := TxS.new hw
 have X0 := hS0.nodes
 have B0 := hS0.b
 clear e hcell hr ha ha1 ih ot hpa hS0
 generalize textT t = ta at *
 have hL1 : (9223372036854775807 < 2 + ta.length) = False := by simp; omega
 have hL2 : (9223372036854775807 < 2 + ta.length + 2) = False := by simp; omega
 have hL3 : (9223372036854775807 < ta.length + 2) = False := by simp; omega
 have hL4 : (9223372036854775807 < ta.length + 2 + 2) = False := by simp; omega
 go_enter Tryz.func15, Tryz.ntmps15
 go_wp2_with fail
 refine (IA.out _ X0).mono ?_
 rintro e w1 ⟨rfl, hB⟩
 have hB1 := B0.trans (hB.mono B0.size)
 go_wp2
 go_ret
 refine ⟨?_, hB1⟩
 apply congrArg Ending.returned
 apply congrArg Value.string
 apply ByteArray.ext
 apply Array.ext'
 simp
theorem rprint_times (b o0 n cap : Nat) (xs : List Nd) (hn : n ≤ 120) (m M : Int) (hc : isCnt m M = true) (t : T) (ot : t.Ok) (zt : t.size ≤ 1000) (ih : RPrints b o0 n cap xs t) : RPrints b o0 n cap xs (T.times m M t) := by
 by_cases hz : m = 0 ∧ M = -1
 ·exact rprint_times1 b o0 n cap xs hn m M hc hz t ot zt ih
 by_cases hq : M = m
 ·exact rprint_times2 b o0 n cap xs hn m M hc hz hq t ot zt ih
 by_cases h1 : M = -1
 ·exact rprint_times3 b o0 n cap xs hn m M hc (fun h => hz ⟨h, h1⟩) h1 t ot zt ih
 ·exact rprint_times4 b o0 n cap xs hn m M hc hq h1 t ot zt ih
theorem rprint_all (b o0 n cap : Nat) (xs : List Nd) (hn : n ≤ 120) : ∀ t : T, t.Ok → TFits t → t.size ≤ 1000 → RPrints b o0 n cap xs t
 | .leaf ⟨kd, w0, w1, w2, w3, xa, xb, m, M, xn⟩, h, hf, hz => by
  have hk := h.2
  simp only at hk
  rcases hk with rfl | rfl | rfl | rfl | rfl
  ·exact rprint_leaf0 b o0 n cap xs hn w0 w1 w2 w3 xa xb m M xn
  ·exact rprint_leaf1 b o0 n cap xs hn w0 w1 w2 w3 xa xb m M xn hf
  ·exact rprint_leaf2 b o0 n cap xs hn w0 w1 w2 w3 xa xb m M xn
  ·exact rprint_leaf3 b o0 n cap xs hn w0 w1 w2 w3 xa xb m M xn
  ·have h1 := h.1
   unfold isNd at h1
   rw [if_neg (by simp only; omega), if_neg (by simp only; omega), if_neg (by simp only; omega), if_neg (by simp only; omega), if_neg (by simp only; omega), if_pos rfl, Bool.and_eq_true] at h1
   exact rprint_leaf8 b o0 n cap xs hn w0 w1 w2 w3 xa xb m M xn (num_of h1.1)
 | .two k a c, h, hf, hz => by
  have hsz : a.size + c.size + 1 ≤ 1000 := by simpa [T.size] using hz
  rcases h.1 with rfl | rfl
  ·exact rprint_two4 b o0 n cap xs hn a c h.2.1 h.2.2 (by omega) (by omega) (rprint_all b o0 n cap xs hn a h.2.1 hf.1 (by omega)) (rprint_all b o0 n cap xs hn c h.2.2 hf.2 (by omega))
  ·exact rprint_two5 b o0 n cap xs hn a c
 | .times m M t, h, hf, hz => by
  have hsz : t.size + 1 ≤ 1000 := by simpa [T.size] using hz
  exact rprint_times b o0 n cap xs hn m M h.1 t h.2 (by omega) (rprint_all b o0 n cap xs hn t h.2 hf (by omega))
 | .group xn t, h, hf, hz => by
  have hsz : t.size + 1 ≤ 1000 := by simpa [T.size] using hz
  exact rprint_group b o0 n cap xs hn xn t h.2 (by omega) (rprint_all b o0 n cap xs hn t h.2 hf (by omega))
end Go.Proofs.YtkcbknfhckomcaaGreatDoor
