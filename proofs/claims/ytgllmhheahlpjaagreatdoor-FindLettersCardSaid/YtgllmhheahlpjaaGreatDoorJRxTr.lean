/- Text's closure at the other trees. -/
import Derived.Test.YtgllmhheahlpjaaGreatDoorJRxTa
import Derived.Laws.EntriesVeiled
import Derived.Test.YtgllmhheahlpjaaGreatDoorJRxTo
set_option linter.unusedVariables false
set_option linter.unusedSimpArgs false
set_option maxRecDepth 100000
set_option maxHeartbeats 40000000
namespace Go.Proofs.YtgllmhheahlpjaaGreatDoor
open Go.RowKit
theorem cells_app (a b : List UInt8) : Lib.byteCells (a ++ b) = Lib.byteCells a ++ Lib.byteCells b := List.map_append ..
theorem cells_len (a : List UInt8) : (Lib.byteCells a).length = a.length := by simp [Lib.byteCells]
theorem writes_times (L C b o0 n cap : Nat) (xs : List Nd) (hlen0 : xs.length = n) (hn : n ≤ 120) (hfit : ∀ (i : Nat) (x : Nd), xs[i]? = some x → x.Fits) (m M : Int) (t : T) (ih : Writes L C b o0 n cap xs t) : Writes L C b o0 n cap xs (T.times m M t) := by
 intro o k bs w ha he hk hlen hw
 have hr := ha.root
 rw [show o + (T.times m M t).size - 1 = k by omega] at hr
 have hfx := hfit k _ hr
 have ha1 := Lib.hid ha
 clear ha
 simp only [T.root] at hr hfx
 have lw := hw.size
 have lb := hw.lt
 have lc := hw.lc
 have cl := hw.cl
 have hcell := hw.x.cell k _ hr
 simp only [T.size] at he
 have tp := t.size_pos
 obtain ⟨p, rfl⟩ : ∃ p, k = p + 1 := ⟨k - 1, by omega⟩
 have ea : (o : Int) + t.size - 1 = (p : Int) := by omega
 rw [ea] at hcell hfx
 have d0 : w.cell? ⟨b, o0 + (p + 1) * 10, none⟩ = some (.int .i64 6) := hcell 0 _ rfl
 have d1 : w.cell? ⟨b, o0 + (p + 1) * 10 + 1, none⟩ = some (.int .u64 0) := hcell 1 _ rfl
 have d2 : w.cell? ⟨b, o0 + (p + 1) * 10 + 2, none⟩ = some (.int .u64 0) := hcell 2 _ rfl
 have d3 : w.cell? ⟨b, o0 + (p + 1) * 10 + 3, none⟩ = some (.int .u64 0) := hcell 3 _ rfl
 have d4 : w.cell? ⟨b, o0 + (p + 1) * 10 + 4, none⟩ = some (.int .u64 0) := hcell 4 _ rfl
 have d5 : w.cell? ⟨b, o0 + (p + 1) * 10 + 5, none⟩ = some (.int .i64 p) := hcell 5 _ rfl
 have d6 : w.cell? ⟨b, o0 + (p + 1) * 10 + 6, none⟩ = some (.int .i64 0) := hcell 6 _ rfl
 have d7 : w.cell? ⟨b, o0 + (p + 1) * 10 + 7, none⟩ = some (.int .i64 m) := hcell 7 _ rfl
 have d8 : w.cell? ⟨b, o0 + (p + 1) * 10 + 8, none⟩ = some (.int .i64 M) := hcell 8 _ rfl
 have d9 : w.cell? ⟨b, o0 + (p + 1) * 10 + 9, none⟩ = some (.int .i64 0) := hcell 9 _ rfl
 have hL : (text (T.times m M t)).length = (headText ⟨6, 0, 0, 0, 0, p, 0, m, M, 0⟩).length + (text t).length := by (show (42 :: _ : List UInt8).length = (42 :: _ : List UInt8).length + _; simp; omega)
 have bA := (Below.refl w.heap.size w).alloc (Nat.le_refl _) (.cells #[.int .i64 6, .int .u64 0, .int .u64 0, .int .u64 0, .int .u64 0, .int .i64 p, .int .i64 0, .int .i64 m, .int .i64 M, .int .i64 0] 60)
 have hwA := hw.below bA
 have X1 := NB.new w ⟨6, 0, 0, 0, 0, p, 0, m, M, 0⟩
 have HH := Lib.hid (head_k 6 0 0 0 0 p 0 m M 0 hfx (by omega) _ (hw.fit _ (bA.mono (by omega))))
 obtain ⟨ht, hht⟩ : ∃ l, l = headText ⟨6, 0, 0, 0, 0, p, 0, m, M, 0⟩ := ⟨_, rfl⟩
 rw [← hht] at HH
 have hlh : bs.length + ht.length ≤ 100000000 := by rw [hht]; omega
 have HT := Lib.hid hht
 clear hht hcell
 obtain ⟨S, hS⟩ : ∃ S : ByteArray, S = ⟨ht.toArray⟩ := ⟨_, rfl⟩
 have hSs : S.size = ht.length := by rw [hS]; simp [ByteArray.size]
 have hSc : Lib.strCells S = Lib.byteCells ht := by rw [hS]; rfl
 rw [← hS] at HH
 clear hS
 go_enter Tryz.func99, Tryz.ntmps99
 go_wp2_with fail
 refine HH.out.mono ?_
 rintro e W1 ⟨rfl, hB1⟩
 have hw1 := hwA.below hB1
 have k1 : SK L C w W1 := (SK.of bA (by omega)).trans (SK.of hB1 (by have := hwA.size; omega))
 have WW := Lib.hid (wstr_c L C bs S W1 hw1.sb (by omega) (by have := hw1.size; omega))
 go_wp2_with fail
 refine WW.out.mono ?_
 rintro e W2 ⟨rfl, hs2, k2⟩
 rw [hSc] at hs2
 have hw2 := hw1.sk k2 hs2
 have k12 := k1.trans k2
 have X2 := (X1.below hB1 X1.lt).sk k2 (by omega)
 have y0 : W2.cell? ⟨w.heap.size, 0, none⟩ = some (.int .i64 6) := X2.c 0
 have y5 : W2.cell? ⟨w.heap.size, 5, none⟩ = some (.int .i64 p) := X2.c 5
 have cf2 := hw2.cf
 have IA := Lib.hid (ih o p (bs ++ Lib.byteCells ht) W2 ha1.out.1 (by omega) (by omega) (by rw [List.length_append, cells_len, HT.out]; omega) hw2)
 go_wp2_with fail
 refine IA.out.mono ?_
 rintro e W3 ⟨rfl, hw3, k3⟩
 go_wp2
 go_end0
 refine ⟨rfl, ?_, k12.trans k3⟩
 have e1 : text (T.times m M t) = ht ++ text t := by rw [HT.out]; show 42 :: _ = (42 :: _) ++ _; simp
 rw [e1, cells_app, ← List.append_assoc]
 exact hw3
theorem writes_group (L C b o0 n cap : Nat) (xs : List Nd) (hlen0 : xs.length = n) (hn : n ≤ 120) (hfit : ∀ (i : Nat) (x : Nd), xs[i]? = some x → x.Fits) (nn : Int) (t : T) (ih : Writes L C b o0 n cap xs t) : Writes L C b o0 n cap xs (T.group nn t) := by
 intro o k bs w ha he hk hlen hw
 have hr := ha.root
 rw [show o + (T.group nn t).size - 1 = k by omega] at hr
 have hfx := hfit k _ hr
 have ha1 := Lib.hid ha
 clear ha
 simp only [T.root] at hr hfx
 have lw := hw.size
 have lb := hw.lt
 have lc := hw.lc
 have cl := hw.cl
 have hcell := hw.x.cell k _ hr
 simp only [T.size] at he
 have tp := t.size_pos
 obtain ⟨p, rfl⟩ : ∃ p, k = p + 1 := ⟨k - 1, by omega⟩
 have ea : (o : Int) + t.size - 1 = (p : Int) := by omega
 rw [ea] at hcell hfx
 have d0 : w.cell? ⟨b, o0 + (p + 1) * 10, none⟩ = some (.int .i64 7) := hcell 0 _ rfl
 have d1 : w.cell? ⟨b, o0 + (p + 1) * 10 + 1, none⟩ = some (.int .u64 0) := hcell 1 _ rfl
 have d2 : w.cell? ⟨b, o0 + (p + 1) * 10 + 2, none⟩ = some (.int .u64 0) := hcell 2 _ rfl
 have d3 : w.cell? ⟨b, o0 + (p + 1) * 10 + 3, none⟩ = some (.int .u64 0) := hcell 3 _ rfl
 have d4 : w.cell? ⟨b, o0 + (p + 1) * 10 + 4, none⟩ = some (.int .u64 0) := hcell 4 _ rfl
 have d5 : w.cell? ⟨b, o0 + (p + 1) * 10 + 5, none⟩ = some (.int .i64 p) := hcell 5 _ rfl
 have d6 : w.cell? ⟨b, o0 + (p + 1) * 10 + 6, none⟩ = some (.int .i64 0) := hcell 6 _ rfl
 have d7 : w.cell? ⟨b, o0 + (p + 1) * 10 + 7, none⟩ = some (.int .i64 0) := hcell 7 _ rfl
 have d8 : w.cell? ⟨b, o0 + (p + 1) * 10 + 8, none⟩ = some (.int .i64 0) := hcell 8 _ rfl
 have d9 : w.cell? ⟨b, o0 + (p + 1) * 10 + 9, none⟩ = some (.int .i64 nn) := hcell 9 _ rfl
 have hL : (text (T.group nn t)).length = (headText ⟨7, 0, 0, 0, 0, p, 0, 0, 0, nn⟩).length + (text t).length + 1 := by (show (40 :: _ : List UInt8).length = (40 :: _ : List UInt8).length + _ + 1; simp; omega)
 have bA := (Below.refl w.heap.size w).alloc (Nat.le_refl _) (.cells #[.int .i64 7, .int .u64 0, .int .u64 0, .int .u64 0, .int .u64 0, .int .i64 p, .int .i64 0, .int .i64 0, .int .i64 0, .int .i64 nn] 60)
 have hwA := hw.below bA
 have X1 := NB.new w ⟨7, 0, 0, 0, 0, p, 0, 0, 0, nn⟩
 have HH := Lib.hid (head_k 7 0 0 0 0 p 0 0 0 nn hfx (by omega) _ (hw.fit _ (bA.mono (by omega))))
 obtain ⟨ht, hht⟩ : ∃ l, l = headText ⟨7, 0, 0, 0, 0, p, 0, 0, 0, nn⟩ := ⟨_, rfl⟩
 rw [← hht] at HH
 have hlh : bs.length + ht.length ≤ 100000000 := by rw [hht]; omega
 have HT := Lib.hid hht
 clear hht hcell
 obtain ⟨S, hS⟩ : ∃ S : ByteArray, S = ⟨ht.toArray⟩ := ⟨_, rfl⟩
 have hSs : S.size = ht.length := by rw [hS]; simp [ByteArray.size]
 have hSc : Lib.strCells S = Lib.byteCells ht := by rw [hS]; rfl
 rw [← hS] at HH
 clear hS
 go_enter Tryz.func99, Tryz.ntmps99
 go_wp2_with fail
 refine HH.out.mono ?_
 rintro e W1 ⟨rfl, hB1⟩
 have hw1 := hwA.below hB1
 have k1 : SK L C w W1 := (SK.of bA (by omega)).trans (SK.of hB1 (by have := hwA.size; omega))
 have WW := Lib.hid (wstr_c L C bs S W1 hw1.sb (by omega) (by have := hw1.size; omega))
 go_wp2_with fail
 refine WW.out.mono ?_
 rintro e W2 ⟨rfl, hs2, k2⟩
 rw [hSc] at hs2
 have hw2 := hw1.sk k2 hs2
 have k12 := k1.trans k2
 have X2 := (X1.below hB1 X1.lt).sk k2 (by omega)
 have y0 : W2.cell? ⟨w.heap.size, 0, none⟩ = some (.int .i64 7) := X2.c 0
 have y5 : W2.cell? ⟨w.heap.size, 5, none⟩ = some (.int .i64 p) := X2.c 5
 have cf2 := hw2.cf
 have IA := Lib.hid (ih o p (bs ++ Lib.byteCells ht) W2 ha1.out.1 (by omega) (by omega) (by rw [List.length_append, cells_len, HT.out]; omega) hw2)
 go_wp2_with fail
 refine IA.out.mono ?_
 rintro e W3 ⟨rfl, hw3, k3⟩
 have WB := Lib.hid (wbyte_c L C (bs ++ Lib.byteCells ht ++ Lib.byteCells (text t)) 41 W3 hw3.sb (by rw [List.length_append, List.length_append, cells_len, cells_len, HT.out]; omega) (by have := hw3.size; omega))
 go_wp2_with fail
 refine WB.out.mono ?_
 rintro e W4 ⟨rfl, hs4, k4⟩
 have hw4 := hw3.sk k4 hs4
 go_wp2
 go_end0
 refine ⟨rfl, ?_, (k12.trans k3).trans k4⟩
 have e1 : text (T.group nn t) = ht ++ (text t ++ [41]) := by rw [HT.out]; rfl
 rw [e1, cells_app, cells_app, ← List.append_assoc, ← List.append_assoc]
 exact hw4
theorem writes_two4 (L C b o0 n cap : Nat) (xs : List Nd) (hlen0 : xs.length = n) (hn : n ≤ 120) (hfit : ∀ (i : Nat) (x : Nd), xs[i]? = some x → x.Fits) (s t : T) (is : Writes L C b o0 n cap xs s) (it : Writes L C b o0 n cap xs t) : Writes L C b o0 n cap xs (T.two 4 s t) := by
 intro o k bs w ha he hk hlen hw
 have hr := ha.root
 rw [show o + (T.two 4 s t).size - 1 = k by omega] at hr
 have hfx := hfit k _ hr
 have ha1 := Lib.hid ha
 clear ha
 simp only [T.root] at hr hfx
 have lw := hw.size
 have lb := hw.lt
 have lc := hw.lc
 have cl := hw.cl
 have hcell := hw.x.cell k _ hr
 simp only [T.size] at he
 have sp := s.size_pos
 have tp := t.size_pos
 obtain ⟨q, rfl⟩ : ∃ q, k = q + 1 := ⟨k - 1, by omega⟩
 obtain ⟨p, hp⟩ : ∃ p, o + s.size = p + 1 := ⟨o + s.size - 1, by omega⟩
 have ea : (o : Int) + s.size - 1 = (p : Int) := by omega
 have eb : (o : Int) + s.size + t.size - 1 = (q : Int) := by omega
 rw [ea, eb] at hcell hfx
 have d0 : w.cell? ⟨b, o0 + (q + 1) * 10, none⟩ = some (.int .i64 4) := hcell 0 _ rfl
 have d1 : w.cell? ⟨b, o0 + (q + 1) * 10 + 1, none⟩ = some (.int .u64 0) := hcell 1 _ rfl
 have d2 : w.cell? ⟨b, o0 + (q + 1) * 10 + 2, none⟩ = some (.int .u64 0) := hcell 2 _ rfl
 have d3 : w.cell? ⟨b, o0 + (q + 1) * 10 + 3, none⟩ = some (.int .u64 0) := hcell 3 _ rfl
 have d4 : w.cell? ⟨b, o0 + (q + 1) * 10 + 4, none⟩ = some (.int .u64 0) := hcell 4 _ rfl
 have d5 : w.cell? ⟨b, o0 + (q + 1) * 10 + 5, none⟩ = some (.int .i64 p) := hcell 5 _ rfl
 have d6 : w.cell? ⟨b, o0 + (q + 1) * 10 + 6, none⟩ = some (.int .i64 q) := hcell 6 _ rfl
 have d7 : w.cell? ⟨b, o0 + (q + 1) * 10 + 7, none⟩ = some (.int .i64 0) := hcell 7 _ rfl
 have d8 : w.cell? ⟨b, o0 + (q + 1) * 10 + 8, none⟩ = some (.int .i64 0) := hcell 8 _ rfl
 have d9 : w.cell? ⟨b, o0 + (q + 1) * 10 + 9, none⟩ = some (.int .i64 0) := hcell 9 _ rfl
 have hL : (text (T.two 4 s t)).length = 1 + (text s).length + (text t).length := by (simp [text]; omega)
 have hL1 : (headText ⟨4, 0, 0, 0, 0, p, q, 0, 0, 0⟩).length = 1 := rfl
 have bA := (Below.refl w.heap.size w).alloc (Nat.le_refl _) (.cells #[.int .i64 4, .int .u64 0, .int .u64 0, .int .u64 0, .int .u64 0, .int .i64 p, .int .i64 q, .int .i64 0, .int .i64 0, .int .i64 0] 60)
 have hwA := hw.below bA
 have X1 := NB.new w ⟨4, 0, 0, 0, 0, p, q, 0, 0, 0⟩
 have HH := Lib.hid (head_k 4 0 0 0 0 p q 0 0 0 hfx (by omega) _ (hw.fit _ (bA.mono (by omega))))
 obtain ⟨ht, hht⟩ : ∃ l, l = headText ⟨4, 0, 0, 0, 0, p, q, 0, 0, 0⟩ := ⟨_, rfl⟩
 rw [← hht] at HH
 have hlh : bs.length + ht.length ≤ 100000000 := by rw [hht]; omega
 have HT := Lib.hid hht
 clear hht hcell
 obtain ⟨S, hS⟩ : ∃ S : ByteArray, S = ⟨ht.toArray⟩ := ⟨_, rfl⟩
 have hSs : S.size = ht.length := by rw [hS]; simp [ByteArray.size]
 have hSc : Lib.strCells S = Lib.byteCells ht := by rw [hS]; rfl
 rw [← hS] at HH
 clear hS
 go_enter Tryz.func99, Tryz.ntmps99
 go_wp2_with fail
 refine HH.out.mono ?_
 rintro e W1 ⟨rfl, hB1⟩
 have hw1 := hwA.below hB1
 have k1 : SK L C w W1 := (SK.of bA (by omega)).trans (SK.of hB1 (by have := hwA.size; omega))
 have WW := Lib.hid (wstr_c L C bs S W1 hw1.sb (by omega) (by have := hw1.size; omega))
 go_wp2_with fail
 refine WW.out.mono ?_
 rintro e W2 ⟨rfl, hs2, k2⟩
 rw [hSc] at hs2
 have hw2 := hw1.sk k2 hs2
 have k12 := k1.trans k2
 have X2 := (X1.below hB1 X1.lt).sk k2 (by omega)
 have y0 : W2.cell? ⟨w.heap.size, 0, none⟩ = some (.int .i64 4) := X2.c 0
 have y5 : W2.cell? ⟨w.heap.size, 5, none⟩ = some (.int .i64 p) := X2.c 5
 have cf2 := hw2.cf
 have IA := Lib.hid (is o p (bs ++ Lib.byteCells ht) W2 ha1.out.1 (by omega) (by omega) (by rw [List.length_append, cells_len, HT.out]; omega) hw2)
 go_wp2_with fail
 refine IA.out.mono ?_
 rintro e W3 ⟨rfl, hw3, k3⟩
 have X3 := X2.sk k3 (by omega)
 have y6 : W3.cell? ⟨w.heap.size, 6, none⟩ = some (.int .i64 q) := X3.c 6
 have cf3 := hw3.cf
 have IB := Lib.hid (it (o + s.size) q (bs ++ Lib.byteCells ht ++ Lib.byteCells (text s)) W3 ha1.out.2.1 (by omega) (by omega) (by rw [List.length_append, List.length_append, cells_len, cells_len, HT.out]; omega) hw3)
 go_wp2_with fail
 refine IB.out.mono ?_
 rintro e W4 ⟨rfl, hw4, k4⟩
 go_wp2
 go_end0
 refine ⟨rfl, ?_, (k12.trans k3).trans k4⟩
 have e1 : text (T.two 4 s t) = ht ++ (text s ++ text t) := by rw [HT.out]; rfl
 rw [e1, cells_app, cells_app, ← List.append_assoc, ← List.append_assoc]
 exact hw4
theorem writes_two5 (L C b o0 n cap : Nat) (xs : List Nd) (hlen0 : xs.length = n) (hn : n ≤ 120) (hfit : ∀ (i : Nat) (x : Nd), xs[i]? = some x → x.Fits) (s t : T) (is : Writes L C b o0 n cap xs s) (it : Writes L C b o0 n cap xs t) : Writes L C b o0 n cap xs (T.two 5 s t) := by
 intro o k bs w ha he hk hlen hw
 have hr := ha.root
 rw [show o + (T.two 5 s t).size - 1 = k by omega] at hr
 have hfx := hfit k _ hr
 have ha1 := Lib.hid ha
 clear ha
 simp only [T.root] at hr hfx
 have lw := hw.size
 have lb := hw.lt
 have lc := hw.lc
 have cl := hw.cl
 have hcell := hw.x.cell k _ hr
 simp only [T.size] at he
 have sp := s.size_pos
 have tp := t.size_pos
 obtain ⟨q, rfl⟩ : ∃ q, k = q + 1 := ⟨k - 1, by omega⟩
 obtain ⟨p, hp⟩ : ∃ p, o + s.size = p + 1 := ⟨o + s.size - 1, by omega⟩
 have ea : (o : Int) + s.size - 1 = (p : Int) := by omega
 have eb : (o : Int) + s.size + t.size - 1 = (q : Int) := by omega
 rw [ea, eb] at hcell hfx
 have d0 : w.cell? ⟨b, o0 + (q + 1) * 10, none⟩ = some (.int .i64 5) := hcell 0 _ rfl
 have d1 : w.cell? ⟨b, o0 + (q + 1) * 10 + 1, none⟩ = some (.int .u64 0) := hcell 1 _ rfl
 have d2 : w.cell? ⟨b, o0 + (q + 1) * 10 + 2, none⟩ = some (.int .u64 0) := hcell 2 _ rfl
 have d3 : w.cell? ⟨b, o0 + (q + 1) * 10 + 3, none⟩ = some (.int .u64 0) := hcell 3 _ rfl
 have d4 : w.cell? ⟨b, o0 + (q + 1) * 10 + 4, none⟩ = some (.int .u64 0) := hcell 4 _ rfl
 have d5 : w.cell? ⟨b, o0 + (q + 1) * 10 + 5, none⟩ = some (.int .i64 p) := hcell 5 _ rfl
 have d6 : w.cell? ⟨b, o0 + (q + 1) * 10 + 6, none⟩ = some (.int .i64 q) := hcell 6 _ rfl
 have d7 : w.cell? ⟨b, o0 + (q + 1) * 10 + 7, none⟩ = some (.int .i64 0) := hcell 7 _ rfl
 have d8 : w.cell? ⟨b, o0 + (q + 1) * 10 + 8, none⟩ = some (.int .i64 0) := hcell 8 _ rfl
 have d9 : w.cell? ⟨b, o0 + (q + 1) * 10 + 9, none⟩ = some (.int .i64 0) := hcell 9 _ rfl
 have hL : (text (T.two 5 s t)).length = 1 + (text s).length + (text t).length := by (simp [text]; omega)
 have hL1 : (headText ⟨5, 0, 0, 0, 0, p, q, 0, 0, 0⟩).length = 1 := rfl
 have bA := (Below.refl w.heap.size w).alloc (Nat.le_refl _) (.cells #[.int .i64 5, .int .u64 0, .int .u64 0, .int .u64 0, .int .u64 0, .int .i64 p, .int .i64 q, .int .i64 0, .int .i64 0, .int .i64 0] 60)
 have hwA := hw.below bA
 have X1 := NB.new w ⟨5, 0, 0, 0, 0, p, q, 0, 0, 0⟩
 have HH := Lib.hid (head_k 5 0 0 0 0 p q 0 0 0 hfx (by omega) _ (hw.fit _ (bA.mono (by omega))))
 obtain ⟨ht, hht⟩ : ∃ l, l = headText ⟨5, 0, 0, 0, 0, p, q, 0, 0, 0⟩ := ⟨_, rfl⟩
 rw [← hht] at HH
 have hlh : bs.length + ht.length ≤ 100000000 := by rw [hht]; omega
 have HT := Lib.hid hht
 clear hht hcell
 obtain ⟨S, hS⟩ : ∃ S : ByteArray, S = ⟨ht.toArray⟩ := ⟨_, rfl⟩
 have hSs : S.size = ht.length := by rw [hS]; simp [ByteArray.size]
 have hSc : Lib.strCells S = Lib.byteCells ht := by rw [hS]; rfl
 rw [← hS] at HH
 clear hS
 go_enter Tryz.func99, Tryz.ntmps99
 go_wp2_with fail
 refine HH.out.mono ?_
 rintro e W1 ⟨rfl, hB1⟩
 have hw1 := hwA.below hB1
 have k1 : SK L C w W1 := (SK.of bA (by omega)).trans (SK.of hB1 (by have := hwA.size; omega))
 have WW := Lib.hid (wstr_c L C bs S W1 hw1.sb (by omega) (by have := hw1.size; omega))
 go_wp2_with fail
 refine WW.out.mono ?_
 rintro e W2 ⟨rfl, hs2, k2⟩
 rw [hSc] at hs2
 have hw2 := hw1.sk k2 hs2
 have k12 := k1.trans k2
 have X2 := (X1.below hB1 X1.lt).sk k2 (by omega)
 have y0 : W2.cell? ⟨w.heap.size, 0, none⟩ = some (.int .i64 5) := X2.c 0
 have y5 : W2.cell? ⟨w.heap.size, 5, none⟩ = some (.int .i64 p) := X2.c 5
 have cf2 := hw2.cf
 have IA := Lib.hid (is o p (bs ++ Lib.byteCells ht) W2 ha1.out.1 (by omega) (by omega) (by rw [List.length_append, cells_len, HT.out]; omega) hw2)
 go_wp2_with fail
 refine IA.out.mono ?_
 rintro e W3 ⟨rfl, hw3, k3⟩
 have X3 := X2.sk k3 (by omega)
 have y6 : W3.cell? ⟨w.heap.size, 6, none⟩ = some (.int .i64 q) := X3.c 6
 have cf3 := hw3.cf
 have IB := Lib.hid (it (o + s.size) q (bs ++ Lib.byteCells ht ++ Lib.byteCells (text s)) W3 ha1.out.2.1 (by omega) (by omega) (by rw [List.length_append, List.length_append, cells_len, cells_len, HT.out]; omega) hw3)
 go_wp2_with fail
 refine IB.out.mono ?_
 rintro e W4 ⟨rfl, hw4, k4⟩
 go_wp2
 go_end0
 refine ⟨rfl, ?_, (k12.trans k3).trans k4⟩
 have e1 : text (T.two 5 s t) = ht ++ (text s ++ text t) := by rw [HT.out]; rfl
 rw [e1, cells_app, cells_app, ← List.append_assoc, ← List.append_assoc]
 exact hw4
end Go.Proofs.YtgllmhheahlpjaaGreatDoor
namespace Go.Proofs.YtgllmhheahlpjaaGreatDoor
open Go.RowKit
theorem writes_all (L C b o0 n cap : Nat) (xs : List Nd) (hlen : xs.length = n) (hn : n ≤ 120) (hfit : ∀ (i : Nat) (x : Nd), xs[i]? = some x → x.Fits) : ∀ t : T, t.Ok → Writes L C b o0 n cap xs t
 | .leaf ⟨kd, w0, w1, w2, w3, xa, xb, m, M, xn⟩, h => by
  have hk := h.2
  simp only at hk
  rcases hk with rfl | rfl | rfl | rfl | rfl
  ·exact writes_leaf0 L C b o0 n cap xs hlen hn hfit w0 w1 w2 w3 xa xb m M xn
  ·exact writes_leaf1 L C b o0 n cap xs hlen hn hfit w0 w1 w2 w3 xa xb m M xn
  ·exact writes_leaf2 L C b o0 n cap xs hlen hn hfit w0 w1 w2 w3 xa xb m M xn
  ·exact writes_leaf3 L C b o0 n cap xs hlen hn hfit w0 w1 w2 w3 xa xb m M xn
  ·exact writes_leaf8 L C b o0 n cap xs hlen hn hfit w0 w1 w2 w3 xa xb m M xn
 | .two k s t, h => by
  rcases h.1 with rfl | rfl
  ·exact writes_two4 L C b o0 n cap xs hlen hn hfit s t (writes_all L C b o0 n cap xs hlen hn hfit s h.2.1) (writes_all L C b o0 n cap xs hlen hn hfit t h.2.2)
  ·exact writes_two5 L C b o0 n cap xs hlen hn hfit s t (writes_all L C b o0 n cap xs hlen hn hfit s h.2.1) (writes_all L C b o0 n cap xs hlen hn hfit t h.2.2)
 | .times m M t, h => writes_times L C b o0 n cap xs hlen hn hfit m M t (writes_all L C b o0 n cap xs hlen hn hfit t h.2)
 | .group k t, h => writes_group L C b o0 n cap xs hlen hn hfit k t (writes_all L C b o0 n cap xs hlen hn hfit t h.2)
theorem cnt_of {m M : Int} (h : isCnt m M = true) : 0 ≤ m ∧ m ≤ 255 ∧ -1 ≤ M ∧ M ≤ 255 := by
 unfold isCnt at h
 split at h
 ·cases h
 ·have := of_decide_eq_true h
  omega
theorem text_len : ∀ t : T, t.Ok → (text t).length ≤ 600 * t.size
 | .leaf x, h => by
  obtain ⟨hn, k⟩ := h
  show (leafText x).length ≤ 600 * 1
  rcases k with k | k | k | k | k
  ·simp [leafText, k]
  ·have h1 := hexl_len (bytesOf x.set).data.toList
   have h2 : (bytesOf x.set).data.toList.length = (bytesOf x.set).size := by simp
   have h3 := bytesOf_size x.set
   have h4 := cnt_le x.set 256
   simp [leafText, k]; omega
  ·simp [leafText, k]
  ·simp [leafText, k]
  ·have h0 := num_of (isNd_ref hn k).1
   have h1 := Lib.itoa_length_le x.n (by omega) (by omega)
   simp [leafText, k]; omega
 | .two k a b, h => by
  have h1 := text_len a h.2.1
  have h2 := text_len b h.2.2
  simp only [text, T.size, List.length_cons, List.length_append]; omega
 | .times m M t, h => by
  have h0 := cnt_of h.1
  have h1 := Lib.itoa_length_le m (by omega) (by omega)
  have h2 := Lib.itoa_length_le M (by omega) (by omega)
  have h3 := text_len t h.2
  simp only [text, T.size, List.length_cons, List.length_append]; omega
 | .group n t, h => by
  have h3 := text_len t h.2
  simp only [text, T.size, List.length_cons, List.length_append, List.length_nil]; omega
theorem text_in (b o n cap : Nat) (xs : List Nd) (hlen : xs.length = n) (h1 : 1 ≤ n) (hn : n ≤ 120) (hfit : ∀ (i : Nat) (x : Nd), xs[i]? = some x → x.Fits) (t : T) (hp : IsPat xs t) (w : World) (hw : Fit3 w) (hx : NodesAt w b o xs) :
  Calls Tryz.prog 67 #[.slice (some ⟨b, o, none⟩) n cap] w fun e w' => e = .returned (.string ⟨(text t).toArray⟩) ∧ Below w.heap.size w w' := by
 obtain ⟨p, rfl⟩ : ∃ p, n = p + 1 := ⟨n - 1, by omega⟩
 have htl := text_len t hp.1
 have hsz : t.size = p + 1 := by rw [hp.2.2.1, hlen]
 have bA : Below w.heap.size w (w.alloc (.cells #[.slice (some ⟨b, o, none⟩) (p + 1) cap] 22)) := (Below.refl _ w).alloc (Nat.le_refl _) _
 have hxA := hx.below bA hx.lt
 have HM := Lib.hid (may_in b o (p + 1) cap xs hlen h1 hn hfit true ⟨fun _ => ⟨t, hp⟩, fun _ => rfl⟩ _ hxA)
 have hl0 := heap_new w (.cells #[.slice (some ⟨b, o, none⟩) (p + 1) cap] 22)
 have lb := hx.lt
 go_enter Tryz.func67, Tryz.ntmps67
 go_wp2_with fail
 refine HM.out.mono ?_
 rintro e W1 ⟨rfl, hB1⟩
 have b1 : Below w.heap.size w W1 := bA.trans (hB1.mono (by simp))
 have hl1 : W1.heap[w.heap.size]? = some (.cells #[.slice (some ⟨b, o, none⟩) (p + 1) cap] 22 (0, 0)) := (hB1.block _ (by simp)).trans hl0
 have lL : w.heap.size < W1.heap.size := (Array.getElem?_eq_some_iff.1 hl1).1
 have cL : W1.cell? ⟨w.heap.size, 0, none⟩ = some (.slice (some ⟨b, o, none⟩) (p + 1) cap) := by simp [World.cell?, hl1]
 obtain ⟨V, hV⟩ : ∃ V, V = ((W1.alloc (.cells #[.pointer none, .slice none 0 0] 127)).alloc (.cells #[.func (.func 99) #[] #[.pointer (some ⟨w.heap.size, 0, none⟩), .pointer (some ⟨W1.heap.size, 0, none⟩), .pointer (some ⟨W1.heap.size + 1, 0, none⟩)]] 128)) := ⟨_, rfl⟩
 have e1 : (W1.alloc (.cells #[.pointer none, .slice none 0 0] 127)).heap.size = W1.heap.size + 1 := World.size_alloc _ _
 have bV : Below w.heap.size w V := by rw [hV]; exact (b1.alloc (by omega) _).alloc (by omega) _
 have hE : TEnv w.heap.size W1.heap.size b o (p + 1) cap xs [] V := by
  refine ⟨lb, lL, ?_, .inl ⟨by omega, .slice none 0 0, ?_, ⟨by simp, .inl ⟨rfl, rfl⟩⟩, by simp [Value.ownBlock]⟩, ?_, hx.below bV lb, fun w' h' => hw.below (bV.trans h')⟩
  ·rw [hV, heap_alloc_lt _ _ _ (by omega), heap_alloc_lt _ _ _ (by omega)]; exact hl1
  ·rw [hV, heap_alloc_lt _ _ _ (by omega)]; exact heap_new _ _
  ·rw [hV, ← e1]; exact heap_new _ _
 have cE := hE.cl; have fE := hE.cf
 have WA := Lib.hid (writes_all w.heap.size W1.heap.size b o (p + 1) cap xs hlen hn hfit t hp.1 0 p [] V hp.2.1 (by omega) (by omega) (by simp; omega) hE)
 rw [hV] at WA cE fE bV
 clear hE HM hl0 hl1 e1
 go_wp2_with fail
 refine WA.out.mono ?_
 rintro e W2 ⟨rfl, hw2, k2⟩
 rw [List.nil_append] at hw2
 have ST := Lib.hid (Tryz.Builder_String_any_k w.heap.size W1.heap.size (text t) W2 hw2.sb (by have := hw2.size; omega))
 have b2 := bV.trans k2.1
 clear WA k2 hw2 cE fE
 go_wp2_with fail
 refine ST.out.mono ?_
 rintro e W3 ⟨rfl, _, hB3, _⟩
 go_wp2
 go_ret
 exact ⟨rfl, b2.trans hB3⟩
end Go.Proofs.YtgllmhheahlpjaaGreatDoor
namespace Go.Proofs.YtgllmhheahlpjaaGreatDoor
open Go.RowKit Go.Lib
def allocs (w : World) : List Obj → World
 | [] => w
 | o :: l => allocs (w.alloc o) l
theorem allocs_old : ∀ (l : List Obj) (w : World) (k : Nat), k < w.heap.size → (allocs w l).heap[k]? = w.heap[k]?
 | [], w, k, h => rfl
 | o :: l, w, k, h => by
  show (allocs (w.alloc o) l).heap[k]? = _
  rw [allocs_old l (w.alloc o) k (by rw [World.size_alloc]; omega)]
  exact heap_alloc_lt _ _ _ h
theorem allocs_at : ∀ (l : List Obj) (w : World) (j : Nat), j < l.length → (allocs w l).heap[w.heap.size + j]? = l[j]?
 | [], w, j, h => by simp at h
 | o :: l, w, 0, h => by
  show (allocs (w.alloc o) l).heap[w.heap.size]? = _
  rw [allocs_old l (w.alloc o) _ (by rw [World.size_alloc]; omega)]
  exact heap_new w o
 | o :: l, w, j + 1, h => by
  show (allocs (w.alloc o) l).heap[w.heap.size + (j + 1)]? = l[j]?
  have := allocs_at l (w.alloc o) j (by simpa using h)
  rw [World.size_alloc] at this
  rw [← this]
  congr 1; omega
theorem allocs_below : ∀ (l : List Obj) (w : World) (B : Nat), B ≤ w.heap.size → Below B w (allocs w l)
 | [], w, B, h => Below.refl _ _
 | o :: l, w, B, h => ((Below.refl _ w).alloc h o).trans (allocs_below l (w.alloc o) B (by rw [World.size_alloc]; omega))
theorem rd_small (s : List UInt8) (hs : s.length < 4294967281) : Small 120 ⟨s, [], 0, 0⟩ (rd 120 ⟨s, [], 0, 0⟩).2 ∧ (rd 120 ⟨s, [], 0, 0⟩).2.xs.length ≤ 120 := by
 obtain ⟨x, g, b⟩ := rd_few 120 ⟨s, [], 0, 0⟩ (by simp)
 generalize (rd 120 ⟨s, [], 0, 0⟩).2 = τ at *
 simp at x g b
 exact ⟨⟨by simp, hs, by omega, by omega, by omega⟩, by omega⟩
theorem read_c (s : List UInt8) (hs : s.length < 4294967281) (w : World) (hv : Vars w) :
  Calls Tryz.prog 66 #[.string ⟨s.toArray⟩] w fun e w' => (∃ v, e = .returned v ∧ w'.ownsRow (w.heap.size + 9) 60 10 v (rd 120 ⟨s, [], 0, 0⟩).2.xs.length (flat (rd 120 ⟨s, [], 0, 0⟩).2.xs)) ∧ Below w.heap.size w w' := by
 have h0 : ∃ V, V = allocs w [.cells #[.string ⟨s.toArray⟩] 118, .cells #[.slice none 0 0] 22, .cells #[.int .i64 0] 3, .cells #[.int .i64 0] 3,
   .cells #[.func (.func 90) #[] #[.pointer (some ⟨w.heap.size + 1, 0, none⟩)]] 119,
   .cells #[.func (.func 96) #[] #[.pointer (some ⟨w.heap.size + 1 + 1, 0, none⟩), .pointer (some ⟨w.heap.size, 0, none⟩), .pointer (some ⟨w.heap.size + 1 + 1 + 1 + 1, 0, none⟩), .pointer (some ⟨w.heap.size + 1 + 1 + 1 + 1 + 1 + 1, 0, none⟩), .pointer (some ⟨w.heap.size + 1 + 1 + 1 + 1 + 1 + 1 + 1, 0, none⟩), .pointer (some ⟨w.heap.size + 1 + 1 + 1 + 1 + 1 + 1 + 1 + 1, 0, none⟩)]] 120,
   .cells #[.func (.func 91) #[] #[.pointer (some ⟨w.heap.size + 1 + 1 + 1 + 1 + 1, 0, none⟩), .pointer (some ⟨w.heap.size + 1 + 1 + 1 + 1, 0, none⟩)]] 84,
   .cells #[.func (.func 92) #[] #[.pointer (some ⟨w.heap.size, 0, none⟩), .pointer (some ⟨w.heap.size + 1 + 1 + 1 + 1, 0, none⟩), .pointer (some ⟨w.heap.size + 1 + 1 + 1 + 1 + 1, 0, none⟩)]] 120,
   .cells #[.func (.func 94) #[] #[.pointer (some ⟨w.heap.size + 1 + 1 + 1, 0, none⟩), .pointer (some ⟨w.heap.size + 1 + 1 + 1 + 1 + 1, 0, none⟩), .pointer (some ⟨w.heap.size, 0, none⟩), .pointer (some ⟨w.heap.size + 1 + 1 + 1 + 1, 0, none⟩)]] 120] := ⟨_, rfl⟩
 obtain ⟨V, hV⟩ := h0
 have hB := allocs_below _ w w.heap.size (Nat.le_refl _) |> fun h => hV ▸ h
 have hE : RE w w.heap.size ⟨s, [], 0, 0⟩ V := by
  rw [hV]
  refine ⟨?_, ⟨.slice none 0 0, ?_, World.ownsRow_nil _ _ _ _⟩, ?_, ?_, ?_, ?_, ?_, ?_, ?_, allocs_below _ _ _ (Nat.le_refl _), Nat.le_refl _, hv⟩
  ·exact allocs_at _ w 0 (by simp)
  ·exact allocs_at _ w 1 (by simp)
  ·exact allocs_at _ w 2 (by simp)
  ·exact allocs_at _ w 3 (by simp)
  ·exact allocs_at _ w 4 (by simp)
  ·exact allocs_at _ w 5 (by simp)
  ·exact allocs_at _ w 6 (by simp)
  ·exact allocs_at _ w 7 (by simp)
  ·exact allocs_at _ w 8 (by simp)
 have NA := Lib.hid (node_all w w.heap.size 120 ⟨s, [], 0, 0⟩ V (rd_small s hs).1 hE)
 rw [hV] at NA hB
 unfold allocs allocs allocs allocs allocs allocs allocs allocs allocs allocs at NA hB
 clear hE hV hv
 go_enter Tryz.func66, Tryz.ntmps66
 go_wp2_with fail
 refine NA.out.mono ?_
 rintro e w1 ⟨rfl, h1, hB1⟩
 obtain ⟨v, h2, h3⟩ := h1.l
 have c1 := heap1 h2
 have f1 := frozen_of _ _ _ _ h2 0
 clear NA h1 h2
 go_wp2
 go_ret
 exact ⟨⟨_, rfl, h3⟩, hB.trans hB1⟩
end Go.Proofs.YtgllmhheahlpjaaGreatDoor
namespace Go.Proofs.YtgllmhheahlpjaaGreatDoor
open Go.RowKit Go.Lib
def rdx (s : List UInt8) : List Nd := (rd 120 ⟨s, [], 0, 0⟩).2.xs
theorem rdx_len (s : List UInt8) (hs : s.length < 4294967281) : (rdx s).length ≤ 120 := (rd_small s hs).2
theorem rdx_fits (s : List UInt8) (hs : s.length < 4294967281) : ∀ (i : Nat) (x : Nd), (rdx s)[i]? = some x → x.Fits := fun i x h => by
 obtain ⟨⟨_, _, _, g, x1⟩, _⟩ := rd_small s hs
 exact (rd_fits 120 ⟨s, [], 0, 0⟩ (fun x hx => by simp at hx) x1 g).1 x (List.mem_of_getElem? h)
theorem IsPat.tfits {xs : List Nd} (hf : ∀ (i : Nat) (x : Nd), xs[i]? = some x → x.Fits) : ∀ (t : T) (o : Nat), T.At (fun i => xs[i]?) t o → TFits t
 | .leaf x, o, h => hf o x h
 | .two k a b, o, ⟨h1, h2, h3⟩ => ⟨IsPat.tfits hf a o h1, IsPat.tfits hf b _ h2⟩
 | .times m M t, o, ⟨h1, h3⟩ => IsPat.tfits hf t o h1
 | .group n t, o, ⟨h1, h3⟩ => IsPat.tfits hf t o h1
theorem rdx_text {xs : List Nd} {t : T} (h : IsPat xs t) (hf : ∀ (i : Nat) (x : Nd), xs[i]? = some x → x.Fits) : rdx (text t) = xs := by
 have hn := h.nodes
 obtain ⟨ok, ha, hs, h120, _, _, hnum⟩ := h
 obtain ⟨u, hu⟩ := Option.isSome_iff_exists.1 hnum
 have := rd_text t 120 ⟨text t, [], 0, 0⟩ (fun _ => false) u [] ok (IsPat.tfits hf t 0 ha) hu (by simp) (by simp; omega) (by simp)
 unfold rdx
 rw [this]
 simp [← hn]
theorem nodes_of_own {w : World} {B n : Nat} {v : Value} {xs : List Nd} (h : w.ownsRow B 60 10 v n (flat xs)) (hn : xs.length = n) (hs : n ≤ 1000) (hf : ∀ (i : Nat) (x : Nd), xs[i]? = some x → x.Fits) :
  ∃ p cap, v = .slice p n cap ∧ Nodes w p n xs ∧ (1 ≤ n → ∃ g, p = some ⟨g, 0, none⟩ ∧ B ≤ g ∧ NodesAt w g 0 xs) := by
 rcases h.2 with ⟨rfl, rfl⟩ | ⟨g, cap, cur, rfl, hg, hb, _, _, hc, ht⟩
 ·exact ⟨none, 0, rfl, ⟨hn, by omega, fun h => absurd h (by omega), fun h => absurd h (by omega), hf⟩, fun h => absurd h (by omega)⟩
 ·have hN : NodesAt w g 0 xs := ⟨(Array.getElem?_eq_some_iff.1 hb).1, fun i x hx j u hj => by
   have hi : i < xs.length := (List.getElem?_eq_some_iff.1 hx).1
   have hj10 : j < 10 := by
    have := (Array.getElem?_eq_some_iff.1 hj).1
    simpa [Nd.cells] using this
   rw [cell_of _ _ _ _ hb, Nat.zero_add]
   have e1 := flat_get xs i j x hx hj10
   rw [hj] at e1
   have : (cur.toList.take (n * 10))[i * 10 + j]? = (flat xs)[i * 10 + j]? := by rw [ht]
   rw [List.getElem?_take_of_lt (by omega), e1] at this
   rw [← this]
   simp⟩
  refine ⟨some ⟨g, 0, none⟩, cap, rfl, ⟨hn, by omega, fun _ => ⟨g, 0, rfl⟩, fun _ b o e => ?_, hf⟩, fun _ => ⟨g, rfl, hg, hN⟩⟩
  simp only [Option.some.injEq, Addr.mk.injEq] at e
  obtain ⟨rfl, rfl, _⟩ := e
  exact hN
structure Fit4 (w : World) : Prop where
 f : Fit3 w
 v : Vars w
theorem Fit4.below {w w' : World} (h : Fit4 w) (hB : Below w.heap.size w w') : Fit4 w' := ⟨h.f.below hB, h.v.below hB⟩
theorem read_n (s : List UInt8) (hs : s.length < 4294967281) (w : World) (hv : Vars w) :
  Calls Tryz.prog 66 #[.string ⟨s.toArray⟩] w fun e w' => (∃ p cap, e = .returned (.slice p (rdx s).length cap) ∧ Nodes w' p (rdx s).length (rdx s) ∧ (1 ≤ (rdx s).length → ∃ g, p = some ⟨g, 0, none⟩ ∧ w.heap.size ≤ g ∧ NodesAt w' g 0 (rdx s))) ∧ Below w.heap.size w w' := by
 refine (read_c s hs w hv).mono ?_
 rintro e w' ⟨⟨v, rfl, h⟩, hB⟩
 obtain ⟨p, cap, rfl, h1, h2⟩ := nodes_of_own h rfl (by have := rdx_len s hs; unfold rdx at this; omega) (rdx_fits s hs)
 exact ⟨⟨p, cap, rfl, h1, fun h3 => by obtain ⟨g, e, hg, hN⟩ := h2 h3; exact ⟨g, e, by omega, hN⟩⟩, hB⟩
theorem parse_yes (s : List UInt8) (hs : s.length < 4294967281) (t : T) (hp : IsPat (rdx s) t) (ht : text t = s) (w : World) (hw : Fit4 w) :
  Calls Tryz.prog 41 #[.string ⟨s.toArray⟩] w fun e w' => (∃ g cap, e = .returned (.tuple #[.slice (some ⟨g, 0, none⟩) (rdx s).length cap, .int .i64 0]) ∧ w.heap.size ≤ g ∧ NodesAt w' g 0 (rdx s)) ∧ Below w.heap.size w w' := by
 have HR := Lib.hid (read_n s hs w hw.v)
 have h120 := rdx_len s hs
 have h1 : 1 ≤ (rdx s).length := by have := hp.2.2.1; have := t.size_pos; omega
 have HT := Lib.hid fun b cap w' (hx : NodesAt w' b 0 (rdx s)) (hf : Fit3 w') => text_in b 0 (rdx s).length cap (rdx s) rfl h1 h120 (rdx_fits s hs) t hp w' hf hx
 have HM := Lib.hid fun p cap w' (h : Nodes w' p (rdx s).length (rdx s)) => may_n p (rdx s).length cap (rdx s) true ⟨fun _ => ⟨t, hp⟩, fun _ => rfl⟩ w' h
 rw [ht] at HT
 clear hp ht h120
 generalize hxs : rdx s = xs at HR HT HM h1 ⊢
 clear hxs
 go_enter Tryz.func41, Tryz.ntmps41
 go_wp2_with fail
 refine HR.out.mono ?_
 rintro e w1 ⟨⟨p, cap, rfl, hN, hg⟩, hB1⟩
 obtain ⟨g, rfl, hgB, hX⟩ := hg h1
 clear hg HR
 go_wp2_with fail
 refine (HM.out _ cap w1 hN).mono ?_
 rintro e w2 ⟨rfl, hB2⟩
 have hX2 := hX.below hB2 hX.lt
 have hB12 := hB1.trans (hB2.mono hB1.size)
 clear hN HM
 go_wp2_with fail
 refine (HT.out g cap w2 hX2 (hw.f.below hB12)).mono ?_
 rintro e w3 ⟨rfl, hB3⟩
 have hX3 := hX2.below hB3 hX2.lt
 have hB13 := hB12.trans (hB3.mono hB12.size)
 clear HT
 go_wp2
 refine bodyPost_ret (v := .tuple #[.slice (some ⟨g, 0, none⟩) xs.length cap, .int .i64 0]) (by simp [results, Tryz.results41, go_sem]) rfl ?_
 exact ⟨⟨g, cap, rfl, hgB, hX3⟩, hB13⟩
end Go.Proofs.YtgllmhheahlpjaaGreatDoor
