/- Text's closure at the other trees. -/
import Derived.Test.YtdjcgjkbecncaaaGreatDoorJRxTa
import Derived.Laws.EntriesVeiled
import Derived.Test.YtdjcgjkbecncaaaGreatDoorJRxTl
import Derived.Test.YtdjcgjkbecncaaaGreatDoorJRxTd
import Derived.Test.YtdjcgjkbecncaaaGreatDoorJSetE
import Derived.Lib.IndexMore
import Derived.Lib.IndexBytes
import Derived.BigQuiet
import Derived.Deep.RegionHeld3
import Derived.Test.YtdjcgjkbecncaaaGreatDoorTie
import Derived.Test.YtdjcgjkbecncaaaGreatDoorCards
import Derived.ProofKit
import Derived.LaidMore
import Derived.OpenShut
import Derived.Stop.Joined
import Derived.Lib.LaidTab
import Derived.Lib.LaidU8
import Derived.SevenTiedAt
import Derived.Laws.IdiomArrays
import Derived.Deep.Slices
import Derived.SizedLaws
import Derived.Shelf.Vars
import Derived.Carry
set_option linter.unusedVariables false
set_option linter.unusedSimpArgs false
set_option maxRecDepth 100000
set_option maxHeartbeats 40000000
namespace Go.Proofs.YtdjcgjkbecncaaaGreatDoor
open Go.RowKit
theorem cells_app (a b : List UInt8) : Lib.byteCells (a ++ b) = Lib.byteCells a ++ Lib.byteCells b := List.map_append ..
theorem cells_len (a : List UInt8) : (Lib.byteCells a).length = a.length := by simp [Lib.byteCells]
theorem writes_times (L C b o0 n cap : Nat) (xs : List Nd) (hlen0 : xs.length = n) (hn : n ≤ 120) (hfit : ∀ (i : Nat) (x : Nd), xs[i]? = some x → x.Fits) (m M : Int) (t : T) (ih : Writes L C b o0 n cap xs t) : Writes L C b o0 n cap xs (T.times m M t) := by
 intro o k bs w ha he hk hlen hw
 have hr := ha.root
 rw [show o + (T.times m M t).size - 1 = k by omega] at hr
 have hfx := hfit k _ hr
 have ha1 := Lib.hid ha
 clear ha
 simp only [T.root] at hr hfx
 have lw := hw.size
 have lb := hw.lt
 have lc := hw.lc
 have cl := hw.cl
 have hcell := hw.x.cell k _ hr
 simp only [T.size] at he
 have tp := t.size_pos
 obtain ⟨p, rfl⟩ : ∃ p, k = p + 1 := ⟨k - 1, by omega⟩
 have ea : (o : Int) + t.size - 1 = (p : Int) := by omega
 rw [ea] at hcell hfx
 have d0 : w.cell? ⟨b, o0 + (p + 1) * 10, none⟩ = some (.int .i64 6) := hcell 0 _ rfl
 have d1 : w.cell? ⟨b, o0 + (p + 1) * 10 + 1, none⟩ = some (.int .u64 0) := hcell 1 _ rfl
 have d2 : w.cell? ⟨b, o0 + (p + 1) * 10 + 2, none⟩ = some (.int .u64 0) := hcell 2 _ rfl
 have d3 : w.cell? ⟨b, o0 + (p + 1) * 10 + 3, none⟩ = some (.int .u64 0) := hcell 3 _ rfl
 have d4 : w.cell? ⟨b, o0 + (p + 1) * 10 + 4, none⟩ = some (.int .u64 0) := hcell 4 _ rfl
 have d5 : w.cell? ⟨b, o0 + (p + 1) * 10 + 5, none⟩ = some (.int .i64 p) := hcell 5 _ rfl
 have d6 : w.cell? ⟨b, o0 + (p + 1) * 10 + 6, none⟩ = some (.int .i64 0) := hcell 6 _ rfl
 have d7 : w.cell? ⟨b, o0 + (p + 1) * 10 + 7, none⟩ = some (.int .i64 m) := hcell 7 _ rfl
 have d8 : w.cell? ⟨b, o0 + (p + 1) * 10 + 8, none⟩ = some (.int .i64 M) := hcell 8 _ rfl
 have d9 : w.cell? ⟨b, o0 + (p + 1) * 10 + 9, none⟩ = some (.int .i64 0) := hcell 9 _ rfl
 have hL : (text (T.times m M t)).length = (headText ⟨6, 0, 0, 0, 0, p, 0, m, M, 0⟩).length + (text t).length := by (show (42 :: _ : List UInt8).length = (42 :: _ : List UInt8).length + _; simp; omega)
 have bA := (Below.refl w.heap.size w).alloc (Nat.le_refl _) (.cells #[.int .i64 6, .int .u64 0, .int .u64 0, .int .u64 0, .int .u64 0, .int .i64 p, .int .i64 0, .int .i64 m, .int .i64 M, .int .i64 0] 37)
 have hwA := hw.below bA
 have X1 := NB.new w ⟨6, 0, 0, 0, 0, p, 0, m, M, 0⟩
 have HH := Lib.hid (head_k 6 0 0 0 0 p 0 m M 0 hfx (by omega) _ (hw.fit _ (bA.mono (by omega))))
 obtain ⟨ht, hht⟩ : ∃ l, l = headText ⟨6, 0, 0, 0, 0, p, 0, m, M, 0⟩ := ⟨_, rfl⟩
 rw [← hht] at HH
 have hlh : bs.length + ht.length ≤ 100000000 := by rw [hht]; omega
 have HT := Lib.hid hht
 clear hht hcell
 obtain ⟨S, hS⟩ : ∃ S : ByteArray, S = ⟨ht.toArray⟩ := ⟨_, rfl⟩
 have hSs : S.size = ht.length := by rw [hS]; simp [ByteArray.size]
 have hSc : Lib.strCells S = Lib.byteCells ht := by rw [hS]; rfl
 rw [← hS] at HH
 clear hS
 go_enter Tryz.func41, Tryz.ntmps41
 go_wp2_with fail
 refine HH.out.mono ?_
 rintro e W1 ⟨rfl, hB1⟩
 have hw1 := hwA.below hB1
 have k1 : SK L C w W1 := (SK.of bA (by omega)).trans (SK.of hB1 (by have := hwA.size; omega))
 have WW := Lib.hid (wstr_c L C bs S W1 hw1.sb (by omega) (by have := hw1.size; omega))
 go_wp2_with fail
 refine WW.out.mono ?_
 rintro e W2 ⟨rfl, hs2, k2⟩
 rw [hSc] at hs2
 have hw2 := hw1.sk k2 hs2
 have k12 := k1.trans k2
 have X2 := (X1.below hB1 X1.lt).sk k2 (by omega)
 have y0 : W2.cell? ⟨w.heap.size, 0, none⟩ = some (.int .i64 6) := X2.c 0
 have y5 : W2.cell? ⟨w.heap.size, 5, none⟩ = some (.int .i64 p) := X2.c 5
 have cf2 := hw2.cf
 have IA := Lib.hid (ih o p (bs ++ Lib.byteCells ht) W2 ha1.out.1 (by omega) (by omega) (by rw [List.length_append, cells_len, HT.out]; omega) hw2)
 go_wp2_with fail
 refine IA.out.mono ?_
 rintro e W3 ⟨rfl, hw3, k3⟩
 go_wp2
 go_end0
 refine ⟨rfl, ?_, k12.trans k3⟩
 have e1 : text (T.times m M t) = ht ++ text t := by rw [HT.out]; show 42 :: _ = (42 :: _) ++ _; simp
 rw [e1, cells_app, ← List.append_assoc]
 exact hw3
theorem writes_group (L C b o0 n cap : Nat) (xs : List Nd) (hlen0 : xs.length = n) (hn : n ≤ 120) (hfit : ∀ (i : Nat) (x : Nd), xs[i]? = some x → x.Fits) (nn : Int) (t : T) (ih : Writes L C b o0 n cap xs t) : Writes L C b o0 n cap xs (T.group nn t) := by
 intro o k bs w ha he hk hlen hw
 have hr := ha.root
 rw [show o + (T.group nn t).size - 1 = k by omega] at hr
 have hfx := hfit k _ hr
 have ha1 := Lib.hid ha
 clear ha
 simp only [T.root] at hr hfx
 have lw := hw.size
 have lb := hw.lt
 have lc := hw.lc
 have cl := hw.cl
 have hcell := hw.x.cell k _ hr
 simp only [T.size] at he
 have tp := t.size_pos
 obtain ⟨p, rfl⟩ : ∃ p, k = p + 1 := ⟨k - 1, by omega⟩
 have ea : (o : Int) + t.size - 1 = (p : Int) := by omega
 rw [ea] at hcell hfx
 have d0 : w.cell? ⟨b, o0 + (p + 1) * 10, none⟩ = some (.int .i64 7) := hcell 0 _ rfl
 have d1 : w.cell? ⟨b, o0 + (p + 1) * 10 + 1, none⟩ = some (.int .u64 0) := hcell 1 _ rfl
 have d2 : w.cell? ⟨b, o0 + (p + 1) * 10 + 2, none⟩ = some (.int .u64 0) := hcell 2 _ rfl
 have d3 : w.cell? ⟨b, o0 + (p + 1) * 10 + 3, none⟩ = some (.int .u64 0) := hcell 3 _ rfl
 have d4 : w.cell? ⟨b, o0 + (p + 1) * 10 + 4, none⟩ = some (.int .u64 0) := hcell 4 _ rfl
 have d5 : w.cell? ⟨b, o0 + (p + 1) * 10 + 5, none⟩ = some (.int .i64 p) := hcell 5 _ rfl
 have d6 : w.cell? ⟨b, o0 + (p + 1) * 10 + 6, none⟩ = some (.int .i64 0) := hcell 6 _ rfl
 have d7 : w.cell? ⟨b, o0 + (p + 1) * 10 + 7, none⟩ = some (.int .i64 0) := hcell 7 _ rfl
 have d8 : w.cell? ⟨b, o0 + (p + 1) * 10 + 8, none⟩ = some (.int .i64 0) := hcell 8 _ rfl
 have d9 : w.cell? ⟨b, o0 + (p + 1) * 10 + 9, none⟩ = some (.int .i64 nn) := hcell 9 _ rfl
 have hL : (text (T.group nn t)).length = (headText ⟨7, 0, 0, 0, 0, p, 0, 0, 0, nn⟩).length + (text t).length + 1 := by (show (40 :: _ : List UInt8).length = (40 :: _ : List UInt8).length + _ + 1; simp; omega)
 have bA := (Below.refl w.heap.size w).alloc (Nat.le_refl _) (.cells #[.int .i64 7, .int .u64 0, .int .u64 0, .int .u64 0, .int .u64 0, .int .i64 p, .int .i64 0, .int .i64 0, .int .i64 0, .int .i64 nn] 37)
 have hwA := hw.below bA
 have X1 := NB.new w ⟨7, 0, 0, 0, 0, p, 0, 0, 0, nn⟩
 have HH := Lib.hid (head_k 7 0 0 0 0 p 0 0 0 nn hfx (by omega) _ (hw.fit _ (bA.mono (by omega))))
 obtain ⟨ht, hht⟩ : ∃ l, l = headText ⟨7, 0, 0, 0, 0, p, 0, 0, 0, nn⟩ := ⟨_, rfl⟩
 rw [← hht] at HH
 have hlh : bs.length + ht.length ≤ 100000000 := by rw [hht]; omega
 have HT := Lib.hid hht
 clear hht hcell
 obtain ⟨S, hS⟩ : ∃ S : ByteArray, S = ⟨ht.toArray⟩ := ⟨_, rfl⟩
 have hSs : S.size = ht.length := by rw [hS]; simp [ByteArray.size]
 have hSc : Lib.strCells S = Lib.byteCells ht := by rw [hS]; rfl
 rw [← hS] at HH
 clear hS
 go_enter Tryz.func41, Tryz.ntmps41
 go_wp2_with fail
 refine HH.out.mono ?_
 rintro e W1 ⟨rfl, hB1⟩
 have hw1 := hwA.below hB1
 have k1 : SK L C w W1 := (SK.of bA (by omega)).trans (SK.of hB1 (by have := hwA.size; omega))
 have WW := Lib.hid (wstr_c L C bs S W1 hw1.sb (by omega) (by have := hw1.size; omega))
 go_wp2_with fail
 refine WW.out.mono ?_
 rintro e W2 ⟨rfl, hs2, k2⟩
 rw [hSc] at hs2
 have hw2 := hw1.sk k2 hs2
 have k12 := k1.trans k2
 have X2 := (X1.below hB1 X1.lt).sk k2 (by omega)
 have y0 : W2.cell? ⟨w.heap.size, 0, none⟩ = some (.int .i64 7) := X2.c 0
 have y5 : W2.cell? ⟨w.heap.size, 5, none⟩ = some (.int .i64 p) := X2.c 5
 have cf2 := hw2.cf
 have IA := Lib.hid (ih o p (bs ++ Lib.byteCells ht) W2 ha1.out.1 (by omega) (by omega) (by rw [List.length_append, cells_len, HT.out]; omega) hw2)
 go_wp2_with fail
 refine IA.out.mono ?_
 rintro e W3 ⟨rfl, hw3, k3⟩
 have WB := Lib.hid (wbyte_c L C (bs ++ Lib.byteCells ht ++ Lib.byteCells (text t)) 41 W3 hw3.sb (by rw [List.length_append, List.length_append, cells_len, cells_len, HT.out]; omega) (by have := hw3.size; omega))
 go_wp2_with fail
 refine WB.out.mono ?_
 rintro e W4 ⟨rfl, hs4, k4⟩
 have hw4 := hw3.sk k4 hs4
 go_wp2
 go_end0
 refine ⟨rfl, ?_, (k12.trans k3).trans k4⟩
 have e1 : text (T.group nn t) = ht ++ (text t ++ [41]) := by rw [HT.out]; rfl
 rw [e1, cells_app, cells_app, ← List.append_assoc, ← List.append_assoc]
 exact hw4
theorem writes_two4 (L C b o0 n cap : Nat) (xs : List Nd) (hlen0 : xs.length = n) (hn : n ≤ 120) (hfit : ∀ (i : Nat) (x : Nd), xs[i]? = some x → x.Fits) (s t : T) (is : Writes L C b o0 n cap xs s) (it : Writes L C b o0 n cap xs t) : Writes L C b o0 n cap xs (T.two 4 s t) := by
 intro o k bs w ha he hk hlen hw
 have hr := ha.root
 rw [show o + (T.two 4 s t).size - 1 = k by omega] at hr
 have hfx := hfit k _ hr
 have ha1 := Lib.hid ha
 clear ha
 simp only [T.root] at hr hfx
 have lw := hw.size
 have lb := hw.lt
 have lc := hw.lc
 have cl := hw.cl
 have hcell := hw.x.cell k _ hr
 simp only [T.size] at he
 have sp := s.size_pos
 have tp := t.size_pos
 obtain ⟨q, rfl⟩ : ∃ q, k = q + 1 := ⟨k - 1, by omega⟩
 obtain ⟨p, hp⟩ : ∃ p, o + s.size = p + 1 := ⟨o + s.size - 1, by omega⟩
 have ea : (o : Int) + s.size - 1 = (p : Int) := by omega
 have eb : (o : Int) + s.size + t.size - 1 = (q : Int) := by omega
 rw [ea, eb] at hcell hfx
 have d0 : w.cell? ⟨b, o0 + (q + 1) * 10, none⟩ = some (.int .i64 4) := hcell 0 _ rfl
 have d1 : w.cell? ⟨b, o0 + (q + 1) * 10 + 1, none⟩ = some (.int .u64 0) := hcell 1 _ rfl
 have d2 : w.cell? ⟨b, o0 + (q + 1) * 10 + 2, none⟩ = some (.int .u64 0) := hcell 2 _ rfl
 have d3 : w.cell? ⟨b, o0 + (q + 1) * 10 + 3, none⟩ = some (.int .u64 0) := hcell 3 _ rfl
 have d4 : w.cell? ⟨b, o0 + (q + 1) * 10 + 4, none⟩ = some (.int .u64 0) := hcell 4 _ rfl
 have d5 : w.cell? ⟨b, o0 + (q + 1) * 10 + 5, none⟩ = some (.int .i64 p) := hcell 5 _ rfl
 have d6 : w.cell? ⟨b, o0 + (q + 1) * 10 + 6, none⟩ = some (.int .i64 q) := hcell 6 _ rfl
 have d7 : w.cell? ⟨b, o0 + (q + 1) * 10 + 7, none⟩ = some (.int .i64 0) := hcell 7 _ rfl
 have d8 : w.cell? ⟨b, o0 + (q + 1) * 10 + 8, none⟩ = some (.int .i64 0) := hcell 8 _ rfl
 have d9 : w.cell? ⟨b, o0 + (q + 1) * 10 + 9, none⟩ = some (.int .i64 0) := hcell 9 _ rfl
 have hL : (text (T.two 4 s t)).length = 1 + (text s).length + (text t).length := by (simp [text]; omega)
 have hL1 : (headText ⟨4, 0, 0, 0, 0, p, q, 0, 0, 0⟩).length = 1 := rfl
 have bA := (Below.refl w.heap.size w).alloc (Nat.le_refl _) (.cells #[.int .i64 4, .int .u64 0, .int .u64 0, .int .u64 0, .int .u64 0, .int .i64 p, .int .i64 q, .int .i64 0, .int .i64 0, .int .i64 0] 37)
 have hwA := hw.below bA
 have X1 := NB.new w ⟨4, 0, 0, 0, 0, p, q, 0, 0, 0⟩
 have HH := Lib.hid (head_k 4 0 0 0 0 p q 0 0 0 hfx (by omega) _ (hw.fit _ (bA.mono (by omega))))
 obtain ⟨ht, hht⟩ : ∃ l, l = headText ⟨4, 0, 0, 0, 0, p, q, 0, 0, 0⟩ := ⟨_, rfl⟩
 rw [← hht] at HH
 have hlh : bs.length + ht.length ≤ 100000000 := by rw [hht]; omega
 have HT := Lib.hid hht
 clear hht hcell
 obtain ⟨S, hS⟩ : ∃ S : ByteArray, S = ⟨ht.toArray⟩ := ⟨_, rfl⟩
 have hSs : S.size = ht.length := by rw [hS]; simp [ByteArray.size]
 have hSc : Lib.strCells S = Lib.byteCells ht := by rw [hS]; rfl
 rw [← hS] at HH
 clear hS
 go_enter Tryz.func41, Tryz.ntmps41
 go_wp2_with fail
 refine HH.out.mono ?_
 rintro e W1 ⟨rfl, hB1⟩
 have hw1 := hwA.below hB1
 have k1 : SK L C w W1 := (SK.of bA (by omega)).trans (SK.of hB1 (by have := hwA.size; omega))
 have WW := Lib.hid (wstr_c L C bs S W1 hw1.sb (by omega) (by have := hw1.size; omega))
 go_wp2_with fail
 refine WW.out.mono ?_
 rintro e W2 ⟨rfl, hs2, k2⟩
 rw [hSc] at hs2
 have hw2 := hw1.sk k2 hs2
 have k12 := k1.trans k2
 have X2 := (X1.below hB1 X1.lt).sk k2 (by omega)
 have y0 : W2.cell? ⟨w.heap.size, 0, none⟩ = some (.int .i64 4) := X2.c 0
 have y5 : W2.cell? ⟨w.heap.size, 5, none⟩ = some (.int .i64 p) := X2.c 5
 have cf2 := hw2.cf
 have IA := Lib.hid (is o p (bs ++ Lib.byteCells ht) W2 ha1.out.1 (by omega) (by omega) (by rw [List.length_append, cells_len, HT.out]; omega) hw2)
 go_wp2_with fail
 refine IA.out.mono ?_
 rintro e W3 ⟨rfl, hw3, k3⟩
 have X3 := X2.sk k3 (by omega)
 have y6 : W3.cell? ⟨w.heap.size, 6, none⟩ = some (.int .i64 q) := X3.c 6
 have cf3 := hw3.cf
 have IB := Lib.hid (it (o + s.size) q (bs ++ Lib.byteCells ht ++ Lib.byteCells (text s)) W3 ha1.out.2.1 (by omega) (by omega) (by rw [List.length_append, List.length_append, cells_len, cells_len, HT.out]; omega) hw3)
 go_wp2_with fail
 refine IB.out.mono ?_
 rintro e W4 ⟨rfl, hw4, k4⟩
 go_wp2
 go_end0
 refine ⟨rfl, ?_, (k12.trans k3).trans k4⟩
 have e1 : text (T.two 4 s t) = ht ++ (text s ++ text t) := by rw [HT.out]; rfl
 rw [e1, cells_app, cells_app, ← List.append_assoc, ← List.append_assoc]
 exact hw4
theorem writes_two5 (L C b o0 n cap : Nat) (xs : List Nd) (hlen0 : xs.length = n) (hn : n ≤ 120) (hfit : ∀ (i : Nat) (x : Nd), xs[i]? = some x → x.Fits) (s t : T) (is : Writes L C b o0 n cap xs s) (it : Writes L C b o0 n cap xs t) : Writes L C b o0 n cap xs (T.two 5 s t) := by
 intro o k bs w ha he hk hlen hw
 have hr := ha.root
 rw [show o + (T.two 5 s t).size - 1 = k by omega] at hr
 have hfx := hfit k _ hr
 have ha1 := Lib.hid ha
 clear ha
 simp only [T.root] at hr hfx
 have lw := hw.size
 have lb := hw.lt
 have lc := hw.lc
 have cl := hw.cl
 have hcell := hw.x.cell k _ hr
 simp only [T.size] at he
 have sp := s.size_pos
 have tp := t.size_pos
 obtain ⟨q, rfl⟩ : ∃ q, k = q + 1 := ⟨k - 1, by omega⟩
 obtain ⟨p, hp⟩ : ∃ p, o + s.size = p + 1 := ⟨o + s.size - 1, by omega⟩
 have ea : (o : Int) + s.size - 1 = (p : Int) := by omega
 have eb : (o : Int) + s.size + t.size - 1 = (q : Int) := by omega
 rw [ea, eb] at hcell hfx
 have d0 : w.cell? ⟨b, o0 + (q + 1) * 10, none⟩ = some (.int .i64 5) := hcell 0 _ rfl
 have d1 : w.cell? ⟨b, o0 + (q + 1) * 10 + 1, none⟩ = some (.int .u64 0) := hcell 1 _ rfl
 have d2 : w.cell? ⟨b, o0 + (q + 1) * 10 + 2, none⟩ = some (.int .u64 0) := hcell 2 _ rfl
 have d3 : w.cell? ⟨b, o0 + (q + 1) * 10 + 3, none⟩ = some (.int .u64 0) := hcell 3 _ rfl
 have d4 : w.cell? ⟨b, o0 + (q + 1) * 10 + 4, none⟩ = some (.int .u64 0) := hcell 4 _ rfl
 have d5 : w.cell? ⟨b, o0 + (q + 1) * 10 + 5, none⟩ = some (.int .i64 p) := hcell 5 _ rfl
 have d6 : w.cell? ⟨b, o0 + (q + 1) * 10 + 6, none⟩ = some (.int .i64 q) := hcell 6 _ rfl
 have d7 : w.cell? ⟨b, o0 + (q + 1) * 10 + 7, none⟩ = some (.int .i64 0) := hcell 7 _ rfl
 have d8 : w.cell? ⟨b, o0 + (q + 1) * 10 + 8, none⟩ = some (.int .i64 0) := hcell 8 _ rfl
 have d9 : w.cell? ⟨b, o0 + (q + 1) * 10 + 9, none⟩ = some (.int .i64 0) := hcell 9 _ rfl
 have hL : (text (T.two 5 s t)).length = 1 + (text s).length + (text t).length := by (simp [text]; omega)
 have hL1 : (headText ⟨5, 0, 0, 0, 0, p, q, 0, 0, 0⟩).length = 1 := rfl
 have bA := (Below.refl w.heap.size w).alloc (Nat.le_refl _) (.cells #[.int .i64 5, .int .u64 0, .int .u64 0, .int .u64 0, .int .u64 0, .int .i64 p, .int .i64 q, .int .i64 0, .int .i64 0, .int .i64 0] 37)
 have hwA := hw.below bA
 have X1 := NB.new w ⟨5, 0, 0, 0, 0, p, q, 0, 0, 0⟩
 have HH := Lib.hid (head_k 5 0 0 0 0 p q 0 0 0 hfx (by omega) _ (hw.fit _ (bA.mono (by omega))))
 obtain ⟨ht, hht⟩ : ∃ l, l = headText ⟨5, 0, 0, 0, 0, p, q, 0, 0, 0⟩ := ⟨_, rfl⟩
 rw [← hht] at HH
 have hlh : bs.length + ht.length ≤ 100000000 := by rw [hht]; omega
 have HT := Lib.hid hht
 clear hht hcell
 obtain ⟨S, hS⟩ : ∃ S : ByteArray, S = ⟨ht.toArray⟩ := ⟨_, rfl⟩
 have hSs : S.size = ht.length := by rw [hS]; simp [ByteArray.size]
 have hSc : Lib.strCells S = Lib.byteCells ht := by rw [hS]; rfl
 rw [← hS] at HH
 clear hS
 go_enter Tryz.func41, Tryz.ntmps41
 go_wp2_with fail
 refine HH.out.mono ?_
 rintro e W1 ⟨rfl, hB1⟩
 have hw1 := hwA.below hB1
 have k1 : SK L C w W1 := (SK.of bA (by omega)).trans (SK.of hB1 (by have := hwA.size; omega))
 have WW := Lib.hid (wstr_c L C bs S W1 hw1.sb (by omega) (by have := hw1.size; omega))
 go_wp2_with fail
 refine WW.out.mono ?_
 rintro e W2 ⟨rfl, hs2, k2⟩
 rw [hSc] at hs2
 have hw2 := hw1.sk k2 hs2
 have k12 := k1.trans k2
 have X2 := (X1.below hB1 X1.lt).sk k2 (by omega)
 have y0 : W2.cell? ⟨w.heap.size, 0, none⟩ = some (.int .i64 5) := X2.c 0
 have y5 : W2.cell? ⟨w.heap.size, 5, none⟩ = some (.int .i64 p) := X2.c 5
 have cf2 := hw2.cf
 have IA := Lib.hid (is o p (bs ++ Lib.byteCells ht) W2 ha1.out.1 (by omega) (by omega) (by rw [List.length_append, cells_len, HT.out]; omega) hw2)
 go_wp2_with fail
 refine IA.out.mono ?_
 rintro e W3 ⟨rfl, hw3, k3⟩
 have X3 := X2.sk k3 (by omega)
 have y6 : W3.cell? ⟨w.heap.size, 6, none⟩ = some (.int .i64 q) := X3.c 6
 have cf3 := hw3.cf
 have IB := Lib.hid (it (o + s.size) q (bs ++ Lib.byteCells ht ++ Lib.byteCells (text s)) W3 ha1.out.2.1 (by omega) (by omega) (by rw [List.length_append, List.length_append, cells_len, cells_len, HT.out]; omega) hw3)
 go_wp2_with fail
 refine IB.out.mono ?_
 rintro e W4 ⟨rfl, hw4, k4⟩
 go_wp2
 go_end0
 refine ⟨rfl, ?_, (k12.trans k3).trans k4⟩
 have e1 : text (T.two 5 s t) = ht ++ (text s ++ text t) := by rw [HT.out]; rfl
 rw [e1, cells_app, cells_app, ← List.append_assoc, ← List.append_assoc]
 exact hw4
end Go.Proofs.YtdjcgjkbecncaaaGreatDoor
namespace Go.Proofs.YtdjcgjkbecncaaaGreatDoor
open Go.RowKit
theorem writes_all (L C b o0 n cap : Nat) (xs : List Nd) (hlen : xs.length = n) (hn : n ≤ 120) (hfit : ∀ (i : Nat) (x : Nd), xs[i]? = some x → x.Fits) : ∀ t : T, t.Ok → Writes L C b o0 n cap xs t
 | .leaf ⟨kd, w0, w1, w2, w3, xa, xb, m, M, xn⟩, h => by
  have hk := h.2
  simp only at hk
  rcases hk with rfl | rfl | rfl | rfl | rfl
  ·exact writes_leaf0 L C b o0 n cap xs hlen hn hfit w0 w1 w2 w3 xa xb m M xn
  ·exact writes_leaf1 L C b o0 n cap xs hlen hn hfit w0 w1 w2 w3 xa xb m M xn
  ·exact writes_leaf2 L C b o0 n cap xs hlen hn hfit w0 w1 w2 w3 xa xb m M xn
  ·exact writes_leaf3 L C b o0 n cap xs hlen hn hfit w0 w1 w2 w3 xa xb m M xn
  ·exact writes_leaf8 L C b o0 n cap xs hlen hn hfit w0 w1 w2 w3 xa xb m M xn
 | .two k s t, h => by
  rcases h.1 with rfl | rfl
  ·exact writes_two4 L C b o0 n cap xs hlen hn hfit s t (writes_all L C b o0 n cap xs hlen hn hfit s h.2.1) (writes_all L C b o0 n cap xs hlen hn hfit t h.2.2)
  ·exact writes_two5 L C b o0 n cap xs hlen hn hfit s t (writes_all L C b o0 n cap xs hlen hn hfit s h.2.1) (writes_all L C b o0 n cap xs hlen hn hfit t h.2.2)
 | .times m M t, h => writes_times L C b o0 n cap xs hlen hn hfit m M t (writes_all L C b o0 n cap xs hlen hn hfit t h.2)
 | .group k t, h => writes_group L C b o0 n cap xs hlen hn hfit k t (writes_all L C b o0 n cap xs hlen hn hfit t h.2)
theorem cnt_of {m M : Int} (h : isCnt m M = true) : 0 ≤ m ∧ m ≤ 255 ∧ -1 ≤ M ∧ M ≤ 255 := by
 unfold isCnt at h
 split at h
 ·cases h
 ·have := of_decide_eq_true h
  omega
theorem text_len : ∀ t : T, t.Ok → (text t).length ≤ 600 * t.size
 | .leaf x, h => by
  obtain ⟨hn, k⟩ := h
  show (leafText x).length ≤ 600 * 1
  rcases k with k | k | k | k | k
  ·simp [leafText, k]
  ·have h1 := hexl_len (bytesOf x.set).data.toList
   have h2 : (bytesOf x.set).data.toList.length = (bytesOf x.set).size := by simp
   have h3 := bytesOf_size x.set
   have h4 := cnt_le x.set 256
   simp [leafText, k]; omega
  ·simp [leafText, k]
  ·simp [leafText, k]
  ·have h0 := num_of (isNd_ref hn k).1
   have h1 := Lib.itoa_length_le x.n (by omega) (by omega)
   simp [leafText, k]; omega
 | .two k a b, h => by
  have h1 := text_len a h.2.1
  have h2 := text_len b h.2.2
  simp only [text, T.size, List.length_cons, List.length_append]; omega
 | .times m M t, h => by
  have h0 := cnt_of h.1
  have h1 := Lib.itoa_length_le m (by omega) (by omega)
  have h2 := Lib.itoa_length_le M (by omega) (by omega)
  have h3 := text_len t h.2
  simp only [text, T.size, List.length_cons, List.length_append]; omega
 | .group n t, h => by
  have h3 := text_len t h.2
  simp only [text, T.size, List.length_cons, List.length_append, List.length_nil]; omega
theorem text_in (b o n cap : Nat) (xs : List Nd) (hlen : xs.length = n) (h1 : 1 ≤ n) (hn : n ≤ 120) (hfit : ∀ (i : Nat) (x : Nd), xs[i]? = some x → x.Fits) (t : T) (hp : IsPat xs t) (w : World) (hw : Fit3 w) (hx : NodesAt w b o xs) :
  Calls Tryz.prog 21 #[.slice (some ⟨b, o, none⟩) n cap] w fun e w' => e = .returned (.string ⟨(text t).toArray⟩) ∧ Below w.heap.size w w' := by
 obtain ⟨p, rfl⟩ : ∃ p, n = p + 1 := ⟨n - 1, by omega⟩
 have htl := text_len t hp.1
 have hsz : t.size = p + 1 := by rw [hp.2.2.1, hlen]
 have bA : Below w.heap.size w (w.alloc (.cells #[.slice (some ⟨b, o, none⟩) (p + 1) cap] 31)) := (Below.refl _ w).alloc (Nat.le_refl _) _
 have hxA := hx.below bA hx.lt
 have HM := Lib.hid (may_in b o (p + 1) cap xs hlen h1 hn hfit true ⟨fun _ => ⟨t, hp⟩, fun _ => rfl⟩ _ hxA)
 have hl0 := heap_new w (.cells #[.slice (some ⟨b, o, none⟩) (p + 1) cap] 31)
 have lb := hx.lt
 go_enter Tryz.func21, Tryz.ntmps21
 go_wp2_with fail
 refine HM.out.mono ?_
 rintro e W1 ⟨rfl, hB1⟩
 have b1 : Below w.heap.size w W1 := bA.trans (hB1.mono (by simp))
 have hl1 : W1.heap[w.heap.size]? = some (.cells #[.slice (some ⟨b, o, none⟩) (p + 1) cap] 31 (0, 0)) := (hB1.block _ (by simp)).trans hl0
 have lL : w.heap.size < W1.heap.size := (Array.getElem?_eq_some_iff.1 hl1).1
 have cL : W1.cell? ⟨w.heap.size, 0, none⟩ = some (.slice (some ⟨b, o, none⟩) (p + 1) cap) := by simp [World.cell?, hl1]
 obtain ⟨V, hV⟩ : ∃ V, V = ((W1.alloc (.cells #[.pointer none, .slice none 0 0] 82)).alloc (.cells #[.func (.func 41) #[] #[.pointer (some ⟨w.heap.size, 0, none⟩), .pointer (some ⟨W1.heap.size, 0, none⟩), .pointer (some ⟨W1.heap.size + 1, 0, none⟩)]] 83)) := ⟨_, rfl⟩
 have e1 : (W1.alloc (.cells #[.pointer none, .slice none 0 0] 82)).heap.size = W1.heap.size + 1 := World.size_alloc _ _
 have bV : Below w.heap.size w V := by rw [hV]; exact (b1.alloc (by omega) _).alloc (by omega) _
 have hE : TEnv w.heap.size W1.heap.size b o (p + 1) cap xs [] V := by
  refine ⟨lb, lL, ?_, .inl ⟨by omega, .slice none 0 0, ?_, ⟨by simp, .inl ⟨rfl, rfl⟩⟩, by simp [Value.ownBlock]⟩, ?_, hx.below bV lb, fun w' h' => hw.below (bV.trans h')⟩
  ·rw [hV, heap_alloc_lt _ _ _ (by omega), heap_alloc_lt _ _ _ (by omega)]; exact hl1
  ·rw [hV, heap_alloc_lt _ _ _ (by omega)]; exact heap_new _ _
  ·rw [hV, ← e1]; exact heap_new _ _
 have cE := hE.cl; have fE := hE.cf
 have WA := Lib.hid (writes_all w.heap.size W1.heap.size b o (p + 1) cap xs hlen hn hfit t hp.1 0 p [] V hp.2.1 (by omega) (by omega) (by simp; omega) hE)
 rw [hV] at WA cE fE bV
 clear hE HM hl0 hl1 e1
 go_wp2_with fail
 refine WA.out.mono ?_
 rintro e W2 ⟨rfl, hw2, k2⟩
 rw [List.nil_append] at hw2
 have ST := Lib.hid (Tryz.Builder_String_any_k w.heap.size W1.heap.size (text t) W2 hw2.sb (by have := hw2.size; omega))
 have b2 := bV.trans k2.1
 clear WA k2 hw2 cE fE
 go_wp2_with fail
 refine ST.out.mono ?_
 rintro e W3 ⟨rfl, _, hB3, _⟩
 go_wp2
 go_ret
 exact ⟨rfl, b2.trans hB3⟩
end Go.Proofs.YtdjcgjkbecncaaaGreatDoor
namespace Go.Proofs.YtdjcgjkbecncaaaGreatDoor
open Go.RowKit Go.Lib
structure Fit4 (w : World) : Prop where
 f : Fit3 w
 v : Vars w
theorem Fit4.below {w w' : World} (h : Fit4 w) (hB : Below w.heap.size w w') : Fit4 w' := ⟨h.f.below hB, h.v.below hB⟩
end Go.Proofs.YtdjcgjkbecncaaaGreatDoor
namespace Go.Proofs.YtdjcgjkbecncaaaGreatDoor
open Go.ChangeShapes Go.WideShapes Go.ChangeAt Go.RowKit
theorem own : ownKnob Tryz.prog.godebug = none := by kernel_rfl
def laid3 : List (String × DataW Unit) := [("math/bits.deBruijn32tab", Rows.laid_math_bits_deBruijn32tab), ("math/bits.deBruijn64tab", Rows.laid_math_bits_deBruijn64tab), ("internal/strconv.uint64pow10", Rows.laid_internal_strconv_uint64pow10), ("unicode/utf8.acceptRanges", Rows.laid_unicode_utf8_acceptRanges), ("strconv.ErrRange", Rows.laid_strconv_ErrRange), ("strconv.ErrSyntax", Rows.laid_strconv_ErrSyntax), ("unicode/utf8.first", Rows.laid_unicode_utf8_first)]
noncomputable def startW (os : Os) : World :=
 { World.doorLaid Tryz.prog 400 os with heap := (World.doorLaid Tryz.prog 400 os).heap.modify 3 fun
  | .cells _ t frozen => .cells (Lib.firstTab.map fun z => Value.int .u8 z).toArray t frozen
  | o => o }
theorem door_met (os : Os) (args : Array Value) : laidMetH Tryz.prog laid3 ((startW os).forCall (fun _ _ => 0) ⟨#[], args, []⟩).memory :=
 laidMetH_of_parts3 (fuel := 8) (laidMet_of_run' 8 (by kernel_rfl) (by kernel_rfl)) (by kernel_rfl) (by kernel_rfl)
theorem data64 : (Rows.laid_math_bits_deBruijn64tab : DataW Unit) = Lib.tabData .u8 (Lib.deBruijn64tab.map (fun k : Nat => (k : Int))) := by
 simp [Rows.laid_math_bits_deBruijn64tab, Lib.tabData, Lib.deBruijn64tab]
theorem dataPow : (Rows.laid_internal_strconv_uint64pow10 : DataW Unit) = Lib.tabData .u64 Lib.pow10Tab := by
 simp [Rows.laid_internal_strconv_uint64pow10, Lib.tabData, Lib.pow10Tab, show List.range 20 = [0, 1, 2, 3, 4, 5, 6, 7, 8, 9, 10, 11, 12, 13, 14, 15, 16, 17, 18, 19] from rfl]
theorem tab_of_reads {W : World} {name : String} {g : Nat} {t e : TypeId} {n : Nat} {k : IntKind} {zs : List Int} (hg : Tryz.prog.globalNamed name = some g) (hty : (Tryz.prog.globals[g]?).map (·.type) = some t)
  (ht : Tryz.prog.underlying t = some (.array n e)) (he : Tryz.prog.underlying e = some (.int k)) (hce : Tryz.prog.cellsOf e = 1) (hct : Tryz.prog.cellsOf t = n) (h : Lib.VarReads Tryz.prog W name (Lib.tabData k zs)) : Lib.TabIs Tryz.prog W name k zs := by
 obtain ⟨g', t', cs, fuel, p, h1, h2, h3, h4⟩ := h
 obtain rfl := Option.some.inj (hg.symm.trans h1)
 obtain rfl := Option.some.inj (hty.symm.trans h2)
 unfold Lib.TabIs
 rw [h3, ← Lib.cells_of_tab ht he hce hct h4]
theorem err_of_reads {W : World} {name nm : String} {g : Nat} {t : TypeId} {ms : Array (String × TypeId)} {d : DataW Unit} (hg : Tryz.prog.globalNamed name = some g) (hty : (Tryz.prog.globals[g]?).map (·.type) = some t)
  (ht : Tryz.prog.underlying t = some (.interface ms)) (h : Lib.VarReads Tryz.prog W name (.iface nm d)) : ∃ tp p, W.var? Tryz.prog name = some #[.iface tp p] := by
 obtain ⟨g', t', cs, fuel, p, h1, h2, h3, h4⟩ := h
 obtain rfl := Option.some.inj (hg.symm.trans h1)
 obtain rfl := Option.some.inj (hty.symm.trans h2)
 obtain ⟨_, u, v, hcs, _, _⟩ := iface_of_trod ht h4
 refine ⟨u, v, ?_⟩
 rw [h3]
 obtain ⟨l⟩ := cs
 simp only at hcs
 rw [hcs]
theorem fit_of_laid {W : World} (h : laidMetH Tryz.prog laid3 W) (hsh : W.ShapedOpen Tryz.prog) : Fit4 W := by
 rw [MakeChecks.laidMetH_plain _ _ _ (by kernel_rfl)] at h
 have r1 := Lib.laidMet.reads h (n := "math/bits.deBruijn64tab") (d := Rows.laid_math_bits_deBruijn64tab) (by simp [laid3])
 have r2 := Lib.laidMet.reads h (n := "internal/strconv.uint64pow10") (d := Rows.laid_internal_strconv_uint64pow10) (by simp [laid3])
 have r3 := Lib.laidMet.reads h (n := "strconv.ErrRange") (d := Rows.laid_strconv_ErrRange) (by simp [laid3])
 have r4 := Lib.laidMet.reads h (n := "strconv.ErrSyntax") (d := Rows.laid_strconv_ErrSyntax) (by simp [laid3])
 rw [data64] at r1
 rw [dataPow] at r2
 have gTab : Tryz.prog.globalNamed "math/bits.deBruijn64tab" = some 0 := by kernel_rfl
 have ht := tab_of_reads gTab (by kernel_rfl) Tryz.underlying145 Tryz.underlying5 (by kernel_rfl) (by kernel_rfl) r1
 have hc : TabAt 0 Lib.deBruijn64tab W := fun j hj => by
  rw [World.var?_cell gTab ht j]
  simp [List.getD, List.getElem?_eq_getElem hj]
 have gPow : ∃ g, Tryz.prog.globalNamed "internal/strconv.uint64pow10" = some g := Option.isSome_iff_exists.1 (by kernel_rfl)
 refine ⟨⟨⟨hc, cell_lt (hc 0 (by decide))⟩, ?_⟩, ⟨?_, ?_, ?_⟩⟩
 ·exact tab_of_reads (g := 2) (by kernel_rfl) (by kernel_rfl) Tryz.underlying196 Tryz.underlying22 (by kernel_rfl) (by kernel_rfl) r2
 ·exact cell_of_shapedOpen_int (P := Tryz.prog) (g := 1) (t := 3) (zero := #[.int .i64 0]) hsh (of_decide_eq_true (by kernel_rfl)) (by kernel_rfl) rfl (by kernel_rfl) (by kernel_rfl) Tryz.underlying3
 ·exact err_of_reads (g := 6) (by kernel_rfl) (by kernel_rfl) Tryz.underlying85 r4
 ·exact err_of_reads (g := 7) (by kernel_rfl) (by kernel_rfl) Tryz.underlying85 r3
theorem form_of_contract {H : Type} {enc : TypeId × Value → H} {C : Checked} {os : Os} {f : FuncId} {fn : Func} {s : ChangeSpec} {apart : Bool} {X : World → Array Value → Prop}
  (hX : ∀ (w w' : World) (args : Array Value), w.heap = w'.heap → X w args → X w' args)
  (own : ownKnob C.prog.godebug = none) (started : os.Started) (noInit : C.prog.inits.idxOf? f = none) (hfn : C.prog.funcs[f]? = some fn)
  (witness : ∃ (w : World) (tape : Tape) (i : Input), w.os = os ∧ (w.forCall tape i).Shaped C.prog ∧ i.vars = [] ∧ Input.okWide C.prog (w.forCall tape i) .any w.heap.size f i ∧
   ((s.pre enc C.prog fn [] apart (w.forCall tape i).memory i.args ∧ X (w.forCall tape i).memory i.args) ∧ sizedMet enc C.prog fn (OpenSpec.ofChange s) apart (w.forCall tape i).memory i.args) ∧ Assume.holds {} C.prog (lone (Frame.enter C.prog f i.args .normal) [] (w.forCall tape i)))
  (contract : ∀ (W : World) (base : Nat) (args : Array Value) (ds gs : List (DataW H)) (before : List MemPlace),
   (∀ (j : Nat) t v, fn.params[j]? = some t → args[j]? = some v → Value.okWide C.prog W .any base t v) →
   DataW.Whole enc C.prog fn.params.toList s.vars apart W args.toList ds gs before →
   (DataW.weightsEach C.prog (fn.params.toList ++ s.plain.varTypes C.prog) (ds ++ gs)).all (· ≤ reachBytes) = true → X W args → W.ShapedOpen C.prog →
   Calls C.prog f args W fun e W' => ∃ v, e = .returned v ∧ s.post enc C.prog fn apart true false false W args v W') :
  ReturnsInHanded {} C os f .any (fun w args => (s.pre enc C.prog fn [] apart w args ∧ X w args) ∧ sizedMet enc C.prog fn (OpenSpec.ofChange s) apart w args) (s.post enc C.prog fn apart true false false) := by
 refine returnsInHanded_of_calls own started noInit witness ?_
 intro w tape i _ shape _ ok pre _
 obtain ⟨_, _, _, fn2, hfn2, _, _, _, _, val⟩ := ok
 cases Option.some.inj (hfn2.symm.trans hfn)
 obtain ⟨⟨⟨ds, gs, before, whole, _⟩, x⟩, sized⟩ := pre
 have whole2 := DataW.Whole.of_heap (w' := w.forCall tape i) (by rfl) whole
 have call := contract (w.forCall tape i) w.heap.size i.args ds gs before val whole2 (sized.weights whole) (hX _ _ _ (by rfl) x) shape
 exact call.mono fun e W' ⟨v, he, hp⟩ => by
  subst he
  exact ChangeSpec.post_blind hp
section
variable {H : Type} {enc : TypeId × Value → H} {W : World} {base : Nat} {sp : Nat → Bool} {held : Bool}
theorem word_of_wf {x : Int} (h : (Lit.int .u64 x).wf = true) : ∃ n : Nat, x = n ∧ n < 18446744073709551616 := by
 simp [Lit.wf, IntKind.min, IntKind.max, IntKind.signed, IntKind.bits] at h
 exact ⟨x.toNat, by omega, by omega⟩
instance : Inhabited Nd := ⟨⟨0, 0, 0, 0, 0, 0, 0, 0, 0, 0⟩⟩
end
end Go.Proofs.YtdjcgjkbecncaaaGreatDoor
