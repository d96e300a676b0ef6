/- Text's closure at the other trees. -/
import Derived.Test.YtjgegohidhdbpaaGreatDoorJRxTa
import Derived.Laws.EntriesVeiled
import Derived.Test.YtjgegohidhdbpaaGreatDoorJRxTo
import Derived.Test.YtjgegohidhdbpaaGreatDoorJSetJ
open Go.Proofs.Tryz
set_option linter.unusedVariables false
set_option linter.unusedSimpArgs false
set_option maxRecDepth 100000
set_option maxHeartbeats 40000000
namespace Go.Proofs.YtjgegohidhdbpaaGreatDoor
open Go.RowKit
theorem jJ (a b : List UInt8) : Lib.byteCells (a ++ b) = Lib.byteCells a ++ Lib.byteCells b := List.map_append ..
theorem kq (a : List UInt8) : (Lib.byteCells a).length = a.length := by simp [Lib.byteCells]
theorem YM (L C b o0 n cap : Nat) (xs : List Nd) (KU : xs.length = n) (hn : n ≤ 120) (qM : ∀ (i : Nat) (x : Nd), xs[i]? = some x → x.Fits) (m M : Int) (t : T) (ih : kV L C b o0 n cap xs t) : kV L C b o0 n cap xs (T.times m M t) := by
 intro o k bs w ha he hk qq hw
 have hr := ha.root
 rw [show o + (T.times m M t).size - 1 = k by omega] at hr
 have yN := qM k _ hr
 have vT := ξ ha
 clear ha
 simp only [T.root] at hr yN
 have lw := hw.size
 have lb := hw.lt
 have lc := hw.lc
 have cl := hw.cl
 have qu := hw.x.cell k _ hr
 simp only [T.size] at he
 have tp := t.size_pos
 obtain ⟨p, rfl⟩ : ∃ p, k = p + 1 := ⟨k - 1, by omega⟩
 have ea : (o : Int) + t.size - 1 = (p : Int) := by omega
 rw [ea] at qu yN
 have d_ := zB qu
 have hL : (text (T.times m M t)).length = (qU ⟨6, 0, 0, 0, 0, p, 0, m, M, 0⟩).length + (text t).length := by (show (42 :: _ : List UInt8).length = (42 :: _ : List UInt8).length + _; simp; omega)
 have bA := (Below.refl w.heap.size w).alloc (Nat.le_refl _) (.cells #[.int .i64 6, .int .u64 0, .int .u64 0, .int .u64 0, .int .u64 0, .int .i64 p, .int .i64 0, .int .i64 m, .int .i64 M, .int .i64 0] 57)
 have KV := hw.below bA
 have X1 := NB.new w ⟨6, 0, 0, 0, 0, p, 0, m, M, 0⟩
 have HH := ξ (yO 6 0 0 0 0 p 0 m M 0 yN (by omega) _ (hw.fit _ (bA.mono (by omega))))
 obtain ⟨ht, yd⟩ : ∃ l, l = qU ⟨6, 0, 0, 0, 0, p, 0, m, M, 0⟩ := ⟨_, rfl⟩
 rw [← yd] at HH
 have hlh : bs.length + ht.length ≤ 100000000 := by rw [yd]; omega
 have HT := ξ yd
 clear yd qu
 obtain ⟨S, hS⟩ : ∃ S : ByteArray, S = ⟨ht.toArray⟩ := ⟨_, rfl⟩
 have hSs : S.size = ht.length := by rw [hS]; simp [ByteArray.size]
 have XX : Lib.strCells S = Lib.byteCells ht := by rw [hS]; rfl
 rw [← hS] at HH
 clear hS
 go_enter func88, ntmps88
 go_wp2_with fail
 refine HH.out.mono ?_
 rintro e W1 ⟨rfl, qr⟩
 have yt := KV.below qr
 have k1 : SK L C w W1 := (SK.of bA (by omega)).trans (SK.of qr (by have := KV.size; omega))
 have WW := ξ (yP L C bs S W1 yt.sb (by omega) (by have := yt.size; omega))
 go_wp2_with fail
 refine WW.out.mono ?_
 rintro e W2 ⟨rfl, Qm, k2⟩
 rw [XX] at Qm
 have Kn := yt.sk k2 Qm
 have k12 := k1.trans k2
 have X2 := (X1.below qr X1.lt).sk k2 (by omega)
 have y0 : W2.cell? ⟨w.heap.size, 0, none⟩ = some (.int .i64 6) := X2.c 0
 have y5 : W2.cell? ⟨w.heap.size, 5, none⟩ = some (.int .i64 p) := X2.c 5
 have cf2 := Kn.cf
 have IA := ξ (ih o p (bs ++ Lib.byteCells ht) W2 vT.out.1 (by omega) (by omega) (by rw [List.length_append, kq, HT.out]; omega) Kn)
 go_wp2_with fail
 refine IA.out.mono ?_
 rintro e W3 ⟨rfl, YN, k3⟩
 go_wp2
 go_end0
 refine ⟨rfl, ?_, k12.trans k3⟩
 have e1 : text (T.times m M t) = ht ++ text t := by rw [HT.out]; show 42 :: _ = (42 :: _) ++ _; simp
 rw [e1, jJ, ← List.append_assoc]
 exact YN
theorem YO (L C b o0 n cap : Nat) (xs : List Nd) (KU : xs.length = n) (hn : n ≤ 120) (qM : ∀ (i : Nat) (x : Nd), xs[i]? = some x → x.Fits) (nn : Int) (t : T) (ih : kV L C b o0 n cap xs t) : kV L C b o0 n cap xs (T.group nn t) := by
 intro o k bs w ha he hk qq hw
 have hr := ha.root
 rw [show o + (T.group nn t).size - 1 = k by omega] at hr
 have yN := qM k _ hr
 have vT := ξ ha
 clear ha
 simp only [T.root] at hr yN
 have lw := hw.size
 have lb := hw.lt
 have lc := hw.lc
 have cl := hw.cl
 have qu := hw.x.cell k _ hr
 simp only [T.size] at he
 have tp := t.size_pos
 obtain ⟨p, rfl⟩ : ∃ p, k = p + 1 := ⟨k - 1, by omega⟩
 have ea : (o : Int) + t.size - 1 = (p : Int) := by omega
 rw [ea] at qu yN
 have d_ := zB qu
 have hL : (text (T.group nn t)).length = (qU ⟨7, 0, 0, 0, 0, p, 0, 0, 0, nn⟩).length + (text t).length + 1 := by (show (40 :: _ : List UInt8).length = (40 :: _ : List UInt8).length + _ + 1; simp; omega)
 have bA := (Below.refl w.heap.size w).alloc (Nat.le_refl _) (.cells #[.int .i64 7, .int .u64 0, .int .u64 0, .int .u64 0, .int .u64 0, .int .i64 p, .int .i64 0, .int .i64 0, .int .i64 0, .int .i64 nn] 57)
 have KV := hw.below bA
 have X1 := NB.new w ⟨7, 0, 0, 0, 0, p, 0, 0, 0, nn⟩
 have HH := ξ (yO 7 0 0 0 0 p 0 0 0 nn yN (by omega) _ (hw.fit _ (bA.mono (by omega))))
 obtain ⟨ht, yd⟩ : ∃ l, l = qU ⟨7, 0, 0, 0, 0, p, 0, 0, 0, nn⟩ := ⟨_, rfl⟩
 rw [← yd] at HH
 have hlh : bs.length + ht.length ≤ 100000000 := by rw [yd]; omega
 have HT := ξ yd
 clear yd qu
 obtain ⟨S, hS⟩ : ∃ S : ByteArray, S = ⟨ht.toArray⟩ := ⟨_, rfl⟩
 have hSs : S.size = ht.length := by rw [hS]; simp [ByteArray.size]
 have XX : Lib.strCells S = Lib.byteCells ht := by rw [hS]; rfl
 rw [← hS] at HH
 clear hS
 go_enter func88, ntmps88
 go_wp2_with fail
 refine HH.out.mono ?_
 rintro e W1 ⟨rfl, qr⟩
 have yt := KV.below qr
 have k1 : SK L C w W1 := (SK.of bA (by omega)).trans (SK.of qr (by have := KV.size; omega))
 have WW := ξ (yP L C bs S W1 yt.sb (by omega) (by have := yt.size; omega))
 go_wp2_with fail
 refine WW.out.mono ?_
 rintro e W2 ⟨rfl, Qm, k2⟩
 rw [XX] at Qm
 have Kn := yt.sk k2 Qm
 have k12 := k1.trans k2
 have X2 := (X1.below qr X1.lt).sk k2 (by omega)
 have y0 : W2.cell? ⟨w.heap.size, 0, none⟩ = some (.int .i64 7) := X2.c 0
 have y5 : W2.cell? ⟨w.heap.size, 5, none⟩ = some (.int .i64 p) := X2.c 5
 have cf2 := Kn.cf
 have IA := ξ (ih o p (bs ++ Lib.byteCells ht) W2 vT.out.1 (by omega) (by omega) (by rw [List.length_append, kq, HT.out]; omega) Kn)
 go_wp2_with fail
 refine IA.out.mono ?_
 rintro e W3 ⟨rfl, YN, k3⟩
 have WB := ξ (qfi L C (bs ++ Lib.byteCells ht ++ Lib.byteCells (text t)) 41 W3 YN.sb (by rw [List.length_append, List.length_append, kq, kq, HT.out]; omega) (by have := YN.size; omega))
 go_wp2_with fail
 refine WB.out.mono ?_
 rintro e W4 ⟨rfl, hs4, k4⟩
 have hw4 := YN.sk k4 hs4
 go_wp2
 go_end0
 refine ⟨rfl, ?_, (k12.trans k3).trans k4⟩
 have e1 : text (T.group nn t) = ht ++ (text t ++ [41]) := by rw [HT.out]; rfl
 rw [e1, jJ, jJ, ← List.append_assoc, ← List.append_assoc]
 exact hw4
theorem XY (L C b o0 n cap : Nat) (xs : List Nd) (KU : xs.length = n) (hn : n ≤ 120) (qM : ∀ (i : Nat) (x : Nd), xs[i]? = some x → x.Fits) (s t : T) (is : kV L C b o0 n cap xs s) (it : kV L C b o0 n cap xs t) : kV L C b o0 n cap xs (T.two 4 s t) := by
 intro o k bs w ha he hk qq hw
 have hr := ha.root
 rw [show o + (T.two 4 s t).size - 1 = k by omega] at hr
 have yN := qM k _ hr
 have vT := ξ ha
 clear ha
 simp only [T.root] at hr yN
 have lw := hw.size
 have lb := hw.lt
 have lc := hw.lc
 have cl := hw.cl
 have qu := hw.x.cell k _ hr
 simp only [T.size] at he
 have sp := s.size_pos
 have tp := t.size_pos
 obtain ⟨q, rfl⟩ : ∃ q, k = q + 1 := ⟨k - 1, by omega⟩
 obtain ⟨p, hp⟩ : ∃ p, o + s.size = p + 1 := ⟨o + s.size - 1, by omega⟩
 have ea : (o : Int) + s.size - 1 = (p : Int) := by omega
 have eb : (o : Int) + s.size + t.size - 1 = (q : Int) := by omega
 rw [ea, eb] at qu yN
 have d_ := zB qu
 have hL : (text (T.two 4 s t)).length = 1 + (text s).length + (text t).length := by (simp [text]; omega)
 have hL1 : (qU ⟨4, 0, 0, 0, 0, p, q, 0, 0, 0⟩).length = 1 := rfl
 have bA := (Below.refl w.heap.size w).alloc (Nat.le_refl _) (.cells #[.int .i64 4, .int .u64 0, .int .u64 0, .int .u64 0, .int .u64 0, .int .i64 p, .int .i64 q, .int .i64 0, .int .i64 0, .int .i64 0] 57)
 have KV := hw.below bA
 have X1 := NB.new w ⟨4, 0, 0, 0, 0, p, q, 0, 0, 0⟩
 have HH := ξ (yO 4 0 0 0 0 p q 0 0 0 yN (by omega) _ (hw.fit _ (bA.mono (by omega))))
 obtain ⟨ht, yd⟩ : ∃ l, l = qU ⟨4, 0, 0, 0, 0, p, q, 0, 0, 0⟩ := ⟨_, rfl⟩
 rw [← yd] at HH
 have hlh : bs.length + ht.length ≤ 100000000 := by rw [yd]; omega
 have HT := ξ yd
 clear yd qu
 obtain ⟨S, hS⟩ : ∃ S : ByteArray, S = ⟨ht.toArray⟩ := ⟨_, rfl⟩
 have hSs : S.size = ht.length := by rw [hS]; simp [ByteArray.size]
 have XX : Lib.strCells S = Lib.byteCells ht := by rw [hS]; rfl
 rw [← hS] at HH
 clear hS
 go_enter func88, ntmps88
 go_wp2_with fail
 refine HH.out.mono ?_
 rintro e W1 ⟨rfl, qr⟩
 have yt := KV.below qr
 have k1 : SK L C w W1 := (SK.of bA (by omega)).trans (SK.of qr (by have := KV.size; omega))
 have WW := ξ (yP L C bs S W1 yt.sb (by omega) (by have := yt.size; omega))
 go_wp2_with fail
 refine WW.out.mono ?_
 rintro e W2 ⟨rfl, Qm, k2⟩
 rw [XX] at Qm
 have Kn := yt.sk k2 Qm
 have k12 := k1.trans k2
 have X2 := (X1.below qr X1.lt).sk k2 (by omega)
 have y0 : W2.cell? ⟨w.heap.size, 0, none⟩ = some (.int .i64 4) := X2.c 0
 have y5 : W2.cell? ⟨w.heap.size, 5, none⟩ = some (.int .i64 p) := X2.c 5
 have cf2 := Kn.cf
 have IA := ξ (is o p (bs ++ Lib.byteCells ht) W2 vT.out.1 (by omega) (by omega) (by rw [List.length_append, kq, HT.out]; omega) Kn)
 go_wp2_with fail
 refine IA.out.mono ?_
 rintro e W3 ⟨rfl, YN, k3⟩
 have X3 := X2.sk k3 (by omega)
 have y6 : W3.cell? ⟨w.heap.size, 6, none⟩ = some (.int .i64 q) := X3.c 6
 have cf3 := YN.cf
 have IB := ξ (it (o + s.size) q (bs ++ Lib.byteCells ht ++ Lib.byteCells (text s)) W3 vT.out.2.1 (by omega) (by omega) (by rw [List.length_append, List.length_append, kq, kq, HT.out]; omega) YN)
 go_wp2_with fail
 refine IB.out.mono ?_
 rintro e W4 ⟨rfl, hw4, k4⟩
 go_wp2
 go_end0
 refine ⟨rfl, ?_, (k12.trans k3).trans k4⟩
 have e1 : text (T.two 4 s t) = ht ++ (text s ++ text t) := by rw [HT.out]; rfl
 rw [e1, jJ, jJ, ← List.append_assoc, ← List.append_assoc]
 exact hw4
theorem XZ (L C b o0 n cap : Nat) (xs : List Nd) (KU : xs.length = n) (hn : n ≤ 120) (qM : ∀ (i : Nat) (x : Nd), xs[i]? = some x → x.Fits) (s t : T) (is : kV L C b o0 n cap xs s) (it : kV L C b o0 n cap xs t) : kV L C b o0 n cap xs (T.two 5 s t) := by
 intro o k bs w ha he hk qq hw
 have hr := ha.root
 rw [show o + (T.two 5 s t).size - 1 = k by omega] at hr
 have yN := qM k _ hr
 have vT := ξ ha
 clear ha
 simp only [T.root] at hr yN
 have lw := hw.size
 have lb := hw.lt
 have lc := hw.lc
 have cl := hw.cl
 have qu := hw.x.cell k _ hr
 simp only [T.size] at he
 have sp := s.size_pos
 have tp := t.size_pos
 obtain ⟨q, rfl⟩ : ∃ q, k = q + 1 := ⟨k - 1, by omega⟩
 obtain ⟨p, hp⟩ : ∃ p, o + s.size = p + 1 := ⟨o + s.size - 1, by omega⟩
 have ea : (o : Int) + s.size - 1 = (p : Int) := by omega
 have eb : (o : Int) + s.size + t.size - 1 = (q : Int) := by omega
 rw [ea, eb] at qu yN
 have d_ := zB qu
 have hL : (text (T.two 5 s t)).length = 1 + (text s).length + (text t).length := by (simp [text]; omega)
 have hL1 : (qU ⟨5, 0, 0, 0, 0, p, q, 0, 0, 0⟩).length = 1 := rfl
 have bA := (Below.refl w.heap.size w).alloc (Nat.le_refl _) (.cells #[.int .i64 5, .int .u64 0, .int .u64 0, .int .u64 0, .int .u64 0, .int .i64 p, .int .i64 q, .int .i64 0, .int .i64 0, .int .i64 0] 57)
 have KV := hw.below bA
 have X1 := NB.new w ⟨5, 0, 0, 0, 0, p, q, 0, 0, 0⟩
 have HH := ξ (yO 5 0 0 0 0 p q 0 0 0 yN (by omega) _ (hw.fit _ (bA.mono (by omega))))
 obtain ⟨ht, yd⟩ : ∃ l, l = qU ⟨5, 0, 0, 0, 0, p, q, 0, 0, 0⟩ := ⟨_, rfl⟩
 rw [← yd] at HH
 have hlh : bs.length + ht.length ≤ 100000000 := by rw [yd]; omega
 have HT := ξ yd
 clear yd qu
 obtain ⟨S, hS⟩ : ∃ S : ByteArray, S = ⟨ht.toArray⟩ := ⟨_, rfl⟩
 have hSs : S.size = ht.length := by rw [hS]; simp [ByteArray.size]
 have XX : Lib.strCells S = Lib.byteCells ht := by rw [hS]; rfl
 rw [← hS] at HH
 clear hS
 go_enter func88, ntmps88
 go_wp2_with fail
 refine HH.out.mono ?_
 rintro e W1 ⟨rfl, qr⟩
 have yt := KV.below qr
 have k1 : SK L C w W1 := (SK.of bA (by omega)).trans (SK.of qr (by have := KV.size; omega))
 have WW := ξ (yP L C bs S W1 yt.sb (by omega) (by have := yt.size; omega))
 go_wp2_with fail
 refine WW.out.mono ?_
 rintro e W2 ⟨rfl, Qm, k2⟩
 rw [XX] at Qm
 have Kn := yt.sk k2 Qm
 have k12 := k1.trans k2
 have X2 := (X1.below qr X1.lt).sk k2 (by omega)
 have y0 : W2.cell? ⟨w.heap.size, 0, none⟩ = some (.int .i64 5) := X2.c 0
 have y5 : W2.cell? ⟨w.heap.size, 5, none⟩ = some (.int .i64 p) := X2.c 5
 have cf2 := Kn.cf
 have IA := ξ (is o p (bs ++ Lib.byteCells ht) W2 vT.out.1 (by omega) (by omega) (by rw [List.length_append, kq, HT.out]; omega) Kn)
 go_wp2_with fail
 refine IA.out.mono ?_
 rintro e W3 ⟨rfl, YN, k3⟩
 have X3 := X2.sk k3 (by omega)
 have y6 : W3.cell? ⟨w.heap.size, 6, none⟩ = some (.int .i64 q) := X3.c 6
 have cf3 := YN.cf
 have IB := ξ (it (o + s.size) q (bs ++ Lib.byteCells ht ++ Lib.byteCells (text s)) W3 vT.out.2.1 (by omega) (by omega) (by rw [List.length_append, List.length_append, kq, kq, HT.out]; omega) YN)
 go_wp2_with fail
 refine IB.out.mono ?_
 rintro e W4 ⟨rfl, hw4, k4⟩
 go_wp2
 go_end0
 refine ⟨rfl, ?_, (k12.trans k3).trans k4⟩
 have e1 : text (T.two 5 s t) = ht ++ (text s ++ text t) := by rw [HT.out]; rfl
 rw [e1, jJ, jJ, ← List.append_assoc, ← List.append_assoc]
 exact hw4
theorem jh (L C b o0 n cap : Nat) (xs : List Nd) (qq : xs.length = n) (hn : n ≤ 120) (qM : ∀ (i : Nat) (x : Nd), xs[i]? = some x → x.Fits) : ∀ t : T, t.Ok → kV L C b o0 n cap xs t
 | .leaf ⟨kd, w0, w1, w2, w3, xa, xb, m, M, xn⟩, h => by
  have hk := h.2
  simp only at hk
  rcases hk with rfl | rfl | rfl | rfl | rfl
  ·exact YP L C b o0 n cap xs qq hn qM w0 w1 w2 w3 xa xb m M xn
  ·exact YQ L C b o0 n cap xs qq hn qM w0 w1 w2 w3 xa xb m M xn
  ·exact YR L C b o0 n cap xs qq hn qM w0 w1 w2 w3 xa xb m M xn
  ·exact YS L C b o0 n cap xs qq hn qM w0 w1 w2 w3 xa xb m M xn
  ·exact YT L C b o0 n cap xs qq hn qM w0 w1 w2 w3 xa xb m M xn
 | .two k s t, h => by
  rcases h.1 with rfl | rfl
  ·exact XY L C b o0 n cap xs qq hn qM s t (jh L C b o0 n cap xs qq hn qM s h.2.1) (jh L C b o0 n cap xs qq hn qM t h.2.2)
  ·exact XZ L C b o0 n cap xs qq hn qM s t (jh L C b o0 n cap xs qq hn qM s h.2.1) (jh L C b o0 n cap xs qq hn qM t h.2.2)
 | .times m M t, h => YM L C b o0 n cap xs qq hn qM m M t (jh L C b o0 n cap xs qq hn qM t h.2)
 | .group k t, h => YO L C b o0 n cap xs qq hn qM k t (jh L C b o0 n cap xs qq hn qM t h.2)
theorem qhL {m M : Int} (h : zr m M = true) : 0 ≤ m ∧ m ≤ 255 ∧ -1 ≤ M ∧ M ≤ 255 := by
 unfold zr at h
 split at h
 ·cases h
 ·have := of_decide_eq_true h
  omega
theorem Qx : ∀ t : T, t.Ok → (text t).length ≤ 600 * t.size
 | .leaf x, h => by
  obtain ⟨hn, k⟩ := h
  show (zC x).length ≤ 600 * 1
  rcases k with k | k | k | k | k
  ·simp [zC, k]
  ·have h1 := X0 (bytesOf x.set).data.toList
   have h2 : (bytesOf x.set).data.toList.length = (bytesOf x.set).size := by simp
   have h3 := ZS x.set
   have h4 := Kv x.set 256
   simp [zC, k]; omega
  ·simp [zC, k]
  ·simp [zC, k]
  ·have h0 := Zx (X4 hn k).1
   have h1 := Lib.itoa_length_le x.n (by omega) (by omega)
   simp [zC, k]; omega
 | .two k a b, h => by
  have h1 := Qx a h.2.1
  have h2 := Qx b h.2.2
  simp only [text, T.size, List.length_cons, List.length_append]; omega
 | .times m M t, h => by
  have h0 := qhL h.1
  have h1 := Lib.itoa_length_le m (by omega) (by omega)
  have h2 := Lib.itoa_length_le M (by omega) (by omega)
  have h3 := Qx t h.2
  simp only [text, T.size, List.length_cons, List.length_append]; omega
 | .group n t, h => by
  have h3 := Qx t h.2
  simp only [text, T.size, List.length_cons, List.length_append, List.length_nil]; omega
theorem qfj (b o n cap : Nat) (xs : List Nd) (qq : xs.length = n) (h1 : 1 ≤ n) (hn : n ≤ 120) (qM : ∀ (i : Nat) (x : Nd), xs[i]? = some x → x.Fits) (t : T) (hp : qN xs t) (w : World) (hw : VC w) (hx : qn w b o xs) :
  Calls prog 53 #[.slice (some ⟨b, o, none⟩) n cap] w fun e w' => e = .returned (.string ⟨(text t).toArray⟩) ∧ Below w.heap.size w w' := by
 obtain ⟨p, rfl⟩ : ∃ p, n = p + 1 := ⟨n - 1, by omega⟩
 have htl := Qx t hp.1
 have kR : t.size = p + 1 := by rw [hp.2.2.1, qq]
 have bA : Below w.heap.size w (w.alloc (.cells #[.slice (some ⟨b, o, none⟩) (p + 1) cap] 22)) := (Below.refl _ w).alloc (Nat.le_refl _) _
 have hxA := hx.below bA hx.lt
 have HM := ξ (Kw b o (p + 1) cap xs qq h1 hn qM true ⟨fun _ => ⟨t, hp⟩, fun _ => rfl⟩ _ hxA)
 have hl0 := zt w (.cells #[.slice (some ⟨b, o, none⟩) (p + 1) cap] 22)
 have lb := hx.lt
 go_enter func53, ntmps53
 go_wp2_with fail
 refine HM.out.mono ?_
 rintro e W1 ⟨rfl, qr⟩
 have b1 : Below w.heap.size w W1 := bA.trans (qr.mono (by simp))
 have YU : W1.heap[w.heap.size]? = some (.cells #[.slice (some ⟨b, o, none⟩) (p + 1) cap] 22 (0, 0)) := (qr.block _ (by simp)).trans hl0
 have lL : w.heap.size < W1.heap.size := (Array.getElem?_eq_some_iff.1 YU).1
 have cL : W1.cell? ⟨w.heap.size, 0, none⟩ = some (.slice (some ⟨b, o, none⟩) (p + 1) cap) := by simp [World.cell?, YU]
 obtain ⟨V, hV⟩ : ∃ V, V = ((W1.alloc (.cells #[.pointer none, .slice none 0 0] 120)).alloc (.cells #[.func (.func 88) #[] #[.pointer (some ⟨w.heap.size, 0, none⟩), .pointer (some ⟨W1.heap.size, 0, none⟩), .pointer (some ⟨W1.heap.size + 1, 0, none⟩)]] 121)) := ⟨_, rfl⟩
 have e1 : (W1.alloc (.cells #[.pointer none, .slice none 0 0] 120)).heap.size = W1.heap.size + 1 := World.size_alloc _ _
 have bV : Below w.heap.size w V := by rw [hV]; exact (b1.alloc (by omega) _).alloc (by omega) _
 have hE : Zy w.heap.size W1.heap.size b o (p + 1) cap xs [] V := by
  refine ⟨lb, lL, ?_, .inl ⟨by omega, .slice none 0 0, ?_, ⟨by simp, .inl ⟨rfl, rfl⟩⟩, by simp [Value.ownBlock]⟩, ?_, hx.below bV lb, fun w' h' => hw.below (bV.trans h')⟩
  ·rw [hV, qK _ _ _ (by omega), qK _ _ _ (by omega)]; exact YU
  ·rw [hV, qK _ _ _ (by omega)]; exact zt _ _
  ·rw [hV, ← e1]; exact zt _ _
 have cE := hE.cl; have fE := hE.cf
 have WA := ξ (jh w.heap.size W1.heap.size b o (p + 1) cap xs qq hn qM t hp.1 0 p [] V hp.2.1 (by omega) (by omega) (by simp; omega) hE)
 rw [hV] at WA cE fE bV
 clear hE HM hl0 YU e1
 go_wp2_with fail
 refine WA.out.mono ?_
 rintro e W2 ⟨rfl, Kn, k2⟩
 rw [List.nil_append] at Kn
 have ST := ξ (Tryz.Builder_String_any_k w.heap.size W1.heap.size (text t) W2 Kn.sb (by have := Kn.size; omega))
 have b2 := bV.trans k2.1
 clear WA k2 Kn cE fE
 go_wp2_with fail
 refine ST.out.mono ?_
 rintro e W3 ⟨rfl, _, qQ, _⟩
 go_wp2
 go_ret
 exact ⟨rfl, b2.trans qQ⟩
open Go.Lib
def kA (w : World) : List Obj → World
 | [] => w
 | o :: l => kA (w.alloc o) l
theorem Ju : ∀ (l : List Obj) (w : World) (k : Nat), k < w.heap.size → (kA w l).heap[k]? = w.heap[k]?
 | [], w, k, h => rfl
 | o :: l, w, k, h => by
  show (kA (w.alloc o) l).heap[k]? = _
  rw [Ju l (w.alloc o) k (by rw [World.size_alloc]; omega)]
  exact qK _ _ _ h
theorem kr : ∀ (l : List Obj) (w : World) (j : Nat), j < l.length → (kA w l).heap[w.heap.size + j]? = l[j]?
 | [], w, j, h => by simp at h
 | o :: l, w, 0, h => by
  show (kA (w.alloc o) l).heap[w.heap.size]? = _
  rw [Ju l (w.alloc o) _ (by rw [World.size_alloc]; omega)]
  exact zt w o
 | o :: l, w, j + 1, h => by
  show (kA (w.alloc o) l).heap[w.heap.size + (j + 1)]? = l[j]?
  have := kr l (w.alloc o) j (by simpa using h)
  rw [World.size_alloc] at this
  rw [← this]
  congr 1; omega
theorem yQ : ∀ (l : List Obj) (w : World) (B : Nat), B ≤ w.heap.size → Below B w (kA w l)
 | [], w, B, h => Below.refl _ _
 | o :: l, w, B, h => ((Below.refl _ w).alloc h o).trans (yQ l (w.alloc o) B (by rw [World.size_alloc]; omega))
theorem Jv (s : List UInt8) (hs : s.length < 4294967281) : Small 120 ⟨s, [], 0, 0⟩ (rd 120 ⟨s, [], 0, 0⟩).2 ∧ (rd 120 ⟨s, [], 0, 0⟩).2.xs.length ≤ 120 := by
 obtain ⟨x, g, b⟩ := qce 120 ⟨s, [], 0, 0⟩ (by simp)
 generalize (rd 120 ⟨s, [], 0, 0⟩).2 = τ at *
 simp at x g b
 exact ⟨⟨by simp, hs, by omega, by omega, by omega⟩, by omega⟩
theorem qhM (s : List UInt8) (hs : s.length < 4294967281) (w : World) (hv : Vars w) :
  Calls prog 52 #[.string ⟨s.toArray⟩] w fun e w' => (∃ v, e = .returned v ∧ w'.ownsRow (w.heap.size + 9) 57 10 v (rd 120 ⟨s, [], 0, 0⟩).2.xs.length (flat (rd 120 ⟨s, [], 0, 0⟩).2.xs)) ∧ Below w.heap.size w w' := by
 have h0 : ∃ V, V = kA w [.cells #[.string ⟨s.toArray⟩] 110, .cells #[.slice none 0 0] 22, .cells #[.int .i64 0] 3, .cells #[.int .i64 0] 3,
   .cells #[.func (.func 78) #[] #[.pointer (some ⟨w.heap.size + 1, 0, none⟩)]] 111,
   .cells #[.func (.func 84) #[] #[.pointer (some ⟨w.heap.size + 1 + 1, 0, none⟩), .pointer (some ⟨w.heap.size, 0, none⟩), .pointer (some ⟨w.heap.size + 1 + 1 + 1 + 1, 0, none⟩), .pointer (some ⟨w.heap.size + 1 + 1 + 1 + 1 + 1 + 1, 0, none⟩), .pointer (some ⟨w.heap.size + 1 + 1 + 1 + 1 + 1 + 1 + 1, 0, none⟩), .pointer (some ⟨w.heap.size + 1 + 1 + 1 + 1 + 1 + 1 + 1 + 1, 0, none⟩)]] 112,
   .cells #[.func (.func 79) #[] #[.pointer (some ⟨w.heap.size + 1 + 1 + 1 + 1 + 1, 0, none⟩), .pointer (some ⟨w.heap.size + 1 + 1 + 1 + 1, 0, none⟩)]] 79,
   .cells #[.func (.func 80) #[] #[.pointer (some ⟨w.heap.size, 0, none⟩), .pointer (some ⟨w.heap.size + 1 + 1 + 1 + 1, 0, none⟩), .pointer (some ⟨w.heap.size + 1 + 1 + 1 + 1 + 1, 0, none⟩)]] 112,
   .cells #[.func (.func 82) #[] #[.pointer (some ⟨w.heap.size + 1 + 1 + 1, 0, none⟩), .pointer (some ⟨w.heap.size + 1 + 1 + 1 + 1 + 1, 0, none⟩), .pointer (some ⟨w.heap.size, 0, none⟩), .pointer (some ⟨w.heap.size + 1 + 1 + 1 + 1, 0, none⟩)]] 112] := ⟨_, rfl⟩
 obtain ⟨V, hV⟩ := h0
 have hB := yQ _ w w.heap.size (Nat.le_refl _) |> fun h => hV ▸ h
 have hE : RE w w.heap.size ⟨s, [], 0, 0⟩ V := by
  rw [hV]
  refine ⟨?_, ⟨.slice none 0 0, ?_, World.ownsRow_nil _ _ _ _⟩, ?_, ?_, ?_, ?_, ?_, ?_, ?_, yQ _ _ _ (Nat.le_refl _), Nat.le_refl _, hv⟩
  ·exact kr _ w 0 (by simp)
  ·exact kr _ w 1 (by simp)
  ·exact kr _ w 2 (by simp)
  ·exact kr _ w 3 (by simp)
  ·exact kr _ w 4 (by simp)
  ·exact kr _ w 5 (by simp)
  ·exact kr _ w 6 (by simp)
  ·exact kr _ w 7 (by simp)
  ·exact kr _ w 8 (by simp)
 have NA := ξ (X5 w w.heap.size 120 ⟨s, [], 0, 0⟩ V (Jv s hs).1 hE)
 rw [hV] at NA hB
 unfold kA kA kA kA kA kA kA kA kA kA at NA hB
 clear hE hV hv
 go_enter func52, ntmps52
 go_wp2_with fail
 refine NA.out.mono ?_
 rintro e w1 ⟨rfl, h1, qr⟩
 obtain ⟨v, h2, h3⟩ := h1.l
 have c1 := qG h2
 have f1 := qD _ _ _ _ h2 0
 clear NA h1 h2
 go_wp2
 go_ret
 exact ⟨⟨_, rfl, h3⟩, hB.trans qr⟩
def Jw (s : List UInt8) : List Nd := (rd 120 ⟨s, [], 0, 0⟩).2.xs
theorem GS (s : List UInt8) (hs : s.length < 4294967281) : (Jw s).length ≤ 120 := (Jv s hs).2
theorem X6 (s : List UInt8) (hs : s.length < 4294967281) : ∀ (i : Nat) (x : Nd), (Jw s)[i]? = some x → x.Fits := fun i x h => by
 obtain ⟨⟨_, _, _, g, x1⟩, _⟩ := Jv s hs
 exact (GT 120 ⟨s, [], 0, 0⟩ (fun x hx => by simp at hx) x1 g).1 x (List.mem_of_getElem? h)
theorem qN.tfits {xs : List Nd} (hf : ∀ (i : Nat) (x : Nd), xs[i]? = some x → x.Fits) : ∀ (t : T) (o : Nat), T.At (fun i => xs[i]?) t o → VY t
 | .leaf x, o, h => hf o x h
 | .two k a b, o, ⟨h1, h2, h3⟩ => ⟨qN.tfits hf a o h1, qN.tfits hf b _ h2⟩
 | .times m M t, o, ⟨h1, h3⟩ => qN.tfits hf t o h1
 | .group n t, o, ⟨h1, h3⟩ => qN.tfits hf t o h1
theorem qcf {xs : List Nd} {t : T} (h : qN xs t) (hf : ∀ (i : Nat) (x : Nd), xs[i]? = some x → x.Fits) : Jw (text t) = xs := by
 have hn := h.nodes
 obtain ⟨ok, ha, hs, Kx, _, _, K9⟩ := h
 obtain ⟨u, hu⟩ := Option.isSome_iff_exists.1 K9
 have := qfk t 120 ⟨text t, [], 0, 0⟩ (fun _ => false) u [] ok (qN.tfits hf t 0 ha) hu (by simp) (by simp; omega) (by simp)
 unfold Jw
 rw [this]
 simp [← hn]
theorem YV {w : World} {B n : Nat} {v : Value} {xs : List Nd} (h : w.ownsRow B 57 10 v n (flat xs)) (hn : xs.length = n) (hs : n ≤ 1000) (hf : ∀ (i : Nat) (x : Nd), xs[i]? = some x → x.Fits) :
  ∃ p cap, v = .slice p n cap ∧ kS w p n xs ∧ (1 ≤ n → ∃ g, p = some ⟨g, 0, none⟩ ∧ B ≤ g ∧ qn w g 0 xs) := by
 rcases h.2 with ⟨rfl, rfl⟩ | ⟨g, cap, cur, rfl, hg, hb, _, _, hc, ht⟩
 ·exact ⟨none, 0, rfl, ⟨hn, by omega, fun h => absurd h (by omega), fun h => absurd h (by omega), hf⟩, fun h => absurd h (by omega)⟩
 ·have hN : qn w g 0 xs := ⟨(Array.getElem?_eq_some_iff.1 hb).1, fun i x hx j u hj => by
   have hi : i < xs.length := (List.getElem?_eq_some_iff.1 hx).1
   have qhN : j < 10 := by
    have := (Array.getElem?_eq_some_iff.1 hj).1
    simpa [Nd.cells] using this
   rw [cell_of _ _ _ _ hb, Nat.zero_add]
   have e1 := flat_get xs i j x hx qhN
   rw [hj] at e1
   have : (cur.toList.take (n * 10))[i * 10 + j]? = (flat xs)[i * 10 + j]? := by rw [ht]
   rw [List.getElem?_take_of_lt (by omega), e1] at this
   rw [← this]
   simp⟩
  refine ⟨some ⟨g, 0, none⟩, cap, rfl, ⟨hn, by omega, fun _ => ⟨g, 0, rfl⟩, fun _ b o e => ?_, hf⟩, fun _ => ⟨g, rfl, hg, hN⟩⟩
  simp only [Option.some.injEq, Addr.mk.injEq] at e
  obtain ⟨rfl, rfl, _⟩ := e
  exact hN
structure Jt (w : World) : Prop where
 f : VC w
 v : Vars w
theorem Jt.below {w w' : World} (h : Jt w) (hB : Below w.heap.size w w') : Jt w' := ⟨h.f.below hB, h.v.below hB⟩
theorem qhO (s : List UInt8) (hs : s.length < 4294967281) (w : World) (hv : Vars w) :
  Calls prog 52 #[.string ⟨s.toArray⟩] w fun e w' => (∃ p cap, e = .returned (.slice p (Jw s).length cap) ∧ kS w' p (Jw s).length (Jw s) ∧ (1 ≤ (Jw s).length → ∃ g, p = some ⟨g, 0, none⟩ ∧ w.heap.size ≤ g ∧ qn w' g 0 (Jw s))) ∧ Below w.heap.size w w' := by
 refine (qhM s hs w hv).mono ?_
 rintro e w' ⟨⟨v, rfl, h⟩, hB⟩
 obtain ⟨p, cap, rfl, h1, h2⟩ := YV h rfl (by have := GS s hs; unfold Jw at this; omega) (X6 s hs)
 exact ⟨⟨p, cap, rfl, h1, fun h3 => by obtain ⟨g, e, hg, hN⟩ := h2 h3; exact ⟨g, e, by omega, hN⟩⟩, hB⟩
theorem qaS (s : List UInt8) (hs : s.length < 4294967281) (t : T) (hp : qN (Jw s) t) (ht : text t = s) (w : World) (hw : Jt w) :
  Calls prog 31 #[.string ⟨s.toArray⟩] w fun e w' => (∃ g cap, e = .returned (.tuple #[.slice (some ⟨g, 0, none⟩) (Jw s).length cap, .int .i64 0]) ∧ w.heap.size ≤ g ∧ qn w' g 0 (Jw s)) ∧ Below w.heap.size w w' := by
 have HR := ξ (qhO s hs w hw.v)
 have Kx := GS s hs
 have h1 : 1 ≤ (Jw s).length := by have := hp.2.2.1; have := t.size_pos; omega
 have HT := ξ fun b cap w' (hx : qn w' b 0 (Jw s)) (hf : VC w') => qfj b 0 (Jw s).length cap (Jw s) rfl h1 Kx (X6 s hs) t hp w' hf hx
 have HM := ξ fun p cap w' (h : kS w' p (Jw s).length (Jw s)) => qcg p (Jw s).length cap (Jw s) true ⟨fun _ => ⟨t, hp⟩, fun _ => rfl⟩ w' h
 rw [ht] at HT
 clear hp ht Kx
 generalize hxs : Jw s = xs at HR HT HM h1 ⊢
 clear hxs
 go_enter func31, ntmps31
 go_wp2_with fail
 refine HR.out.mono ?_
 rintro e w1 ⟨⟨p, cap, rfl, hN, hg⟩, qr⟩
 obtain ⟨g, rfl, hgB, hX⟩ := hg h1
 clear hg HR
 go_wp2_with fail
 refine (HM.out _ cap w1 hN).mono ?_
 rintro e w2 ⟨rfl, zj⟩
 have hX2 := hX.below zj hX.lt
 have Jy := qr.trans (zj.mono qr.size)
 clear hN HM
 go_wp2_with fail
 refine (HT.out g cap w2 hX2 (hw.f.below Jy)).mono ?_
 rintro e w3 ⟨rfl, qQ⟩
 have hX3 := hX2.below qQ hX2.lt
 have qch := Jy.trans (qQ.mono Jy.size)
 clear HT
 go_wp2
 refine bodyPost_ret (v := .tuple #[.slice (some ⟨g, 0, none⟩) xs.length cap, .int .i64 0]) (by simp [results, results31, go_sem]) rfl ?_
 exact ⟨⟨g, cap, rfl, hgB, hX3⟩, qch⟩
def s0 : List UInt8 := [38, 91, 54, 49, 93, 42, 48, 44, 45, 49, 59, 91, 54, 50, 93]
def na : Nd := ⟨1, 0, 8589934592, 0, 0, 0, 0, 0, 0, 0⟩
def nb : Nd := ⟨1, 0, 17179869184, 0, 0, 0, 0, 0, 0, 0⟩
def t0 : T := .two 4 (.leaf na) (.times 0 (-1) (.leaf nb))
def x0 : List Nd := [na, nb, ⟨6, 0, 0, 0, 0, 1, 0, 0, -1, 0⟩, ⟨4, 0, 0, 0, 0, 0, 2, 0, 0, 0⟩]
theorem Jt.drew {w : World} (h : Jt w) : Jt w.drew := h.below ((Below.refl _ _).drew)
end Go.Proofs.YtjgegohidhdbpaaGreatDoor
