/- Text's closure at the other trees. -/
import Derived.Test.YthbldjiibgnfmaaGreatDoorZRxTa
namespace Go.Proofs.YthbldjiibgnfmaaGreatDoor
open Go.RowKit
set_option linter.unusedVariables false
set_option linter.unusedSimpArgs false

theorem cells_app (a b : List UInt8) : Lib.byteCells (a ++ b) = Lib.byteCells a ++ Lib.byteCells b := List.map_append ..
theorem cells_len (a : List UInt8) : (Lib.byteCells a).length = a.length := by simp [Lib.byteCells]

set_option maxRecDepth 100000 in
set_option maxHeartbeats 40000000 in
theorem writes_times (L C b o0 n cap : Nat) (xs : List Nd) (hlen0 : xs.length = n) (hn : n ≤ 120) (hfit : ∀ (i : Nat) (x : Nd), xs[i]? = some x → x.Fits) (m M : Int) (t : T) (ih : Writes L C b o0 n cap xs t) : Writes L C b o0 n cap xs (T.times m M t) := by
  intro o k bs w ha he hk hlen hw
  have hr := ha.root
  rw [show o + (T.times m M t).size - 1 = k by omega] at hr
  have hfx := hfit k _ hr
  have ha1 := Lib.hid ha
  clear ha
  simp only [T.root] at hr hfx
  have lw := hw.size
  have lb := hw.lt
  have lc := hw.lc
  have cl := hw.cl
  have hcell := hw.x.cell k _ hr
  simp only [T.size] at he
  have tp := t.size_pos
  obtain ⟨p, rfl⟩ : ∃ p, k = p + 1 := ⟨k - 1, by omega⟩
  have ea : (o : Int) + t.size - 1 = (p : Int) := by omega
  rw [ea] at hcell hfx
  have d0 : w.cell? ⟨b, o0 + (p + 1) * 10, none⟩ = some (.int .i64 6) := hcell 0 _ rfl
  have d1 : w.cell? ⟨b, o0 + (p + 1) * 10 + 1, none⟩ = some (.int .u64 0) := hcell 1 _ rfl
  have d2 : w.cell? ⟨b, o0 + (p + 1) * 10 + 2, none⟩ = some (.int .u64 0) := hcell 2 _ rfl
  have d3 : w.cell? ⟨b, o0 + (p + 1) * 10 + 3, none⟩ = some (.int .u64 0) := hcell 3 _ rfl
  have d4 : w.cell? ⟨b, o0 + (p + 1) * 10 + 4, none⟩ = some (.int .u64 0) := hcell 4 _ rfl
  have d5 : w.cell? ⟨b, o0 + (p + 1) * 10 + 5, none⟩ = some (.int .i64 p) := hcell 5 _ rfl
  have d6 : w.cell? ⟨b, o0 + (p + 1) * 10 + 6, none⟩ = some (.int .i64 0) := hcell 6 _ rfl
  have d7 : w.cell? ⟨b, o0 + (p + 1) * 10 + 7, none⟩ = some (.int .i64 m) := hcell 7 _ rfl
  have d8 : w.cell? ⟨b, o0 + (p + 1) * 10 + 8, none⟩ = some (.int .i64 M) := hcell 8 _ rfl
  have d9 : w.cell? ⟨b, o0 + (p + 1) * 10 + 9, none⟩ = some (.int .i64 0) := hcell 9 _ rfl
  have hL : (text (T.times m M t)).length = (headText ⟨6, 0, 0, 0, 0, p, 0, m, M, 0⟩).length + (text t).length := by (show (42 :: _ : List UInt8).length = (42 :: _ : List UInt8).length + _; simp; omega)
  have bA := (Below.refl w.heap.size w).alloc (Nat.le_refl _) (.cells #[.int .i64 6, .int .u64 0, .int .u64 0, .int .u64 0, .int .u64 0, .int .i64 p, .int .i64 0, .int .i64 m, .int .i64 M, .int .i64 0] 37)
  have hwA := hw.below bA
  have X1 := NB.new w ⟨6, 0, 0, 0, 0, p, 0, m, M, 0⟩
  have HH := Lib.hid (head_k 6 0 0 0 0 p 0 m M 0 hfx (by omega) _ (hw.fit _ (bA.mono (by omega))))
  obtain ⟨ht, hht⟩ : ∃ l, l = headText ⟨6, 0, 0, 0, 0, p, 0, m, M, 0⟩ := ⟨_, rfl⟩
  rw [← hht] at HH
  have hlh : bs.length + ht.length ≤ 100000000 := by rw [hht]; omega
  have HT := Lib.hid hht
  clear hht hcell
  obtain ⟨S, hS⟩ : ∃ S : ByteArray, S = ⟨ht.toArray⟩ := ⟨_, rfl⟩
  have hSs : S.size = ht.length := by rw [hS]; simp [ByteArray.size]
  have hSc : Lib.strCells S = Lib.byteCells ht := by rw [hS]; rfl
  rw [← hS] at HH
  clear hS
  go_enter Tryz.func29, Tryz.ntmps29
  go_wp2_with fail
  refine HH.out.mono ?_
  rintro e W1 ⟨rfl, hB1⟩
  have hw1 := hwA.below hB1
  have k1 : SK L C w W1 := (SK.of bA (by omega)).trans (SK.of hB1 (by have := hwA.size; omega))
  have WW := Lib.hid (wstr_c L C bs S W1 hw1.sb (by omega) (by have := hw1.size; omega))
  go_wp2_with fail
  refine WW.out.mono ?_
  rintro e W2 ⟨rfl, hs2, k2⟩
  rw [hSc] at hs2
  have hw2 := hw1.sk k2 hs2
  have k12 := k1.trans k2
  have X2 := (X1.below hB1 X1.lt).sk k2 (by omega)
  have y0 : W2.cell? ⟨w.heap.size, 0, none⟩ = some (.int .i64 6) := X2.c 0
  have y5 : W2.cell? ⟨w.heap.size, 5, none⟩ = some (.int .i64 p) := X2.c 5
  have cf2 := hw2.cf
  have IA := Lib.hid (ih o p (bs ++ Lib.byteCells ht) W2 ha1.out.1 (by omega) (by omega) (by rw [List.length_append, cells_len, HT.out]; omega) hw2)
  go_wp2_with fail
  refine IA.out.mono ?_
  rintro e W3 ⟨rfl, hw3, k3⟩
  go_wp2
  go_end0
  refine ⟨rfl, ?_, k12.trans k3⟩
  have e1 : text (T.times m M t) = ht ++ text t := by rw [HT.out]; show 42 :: _ = (42 :: _) ++ _; simp
  rw [e1, cells_app, ← List.append_assoc]
  exact hw3

set_option maxRecDepth 100000 in
set_option maxHeartbeats 40000000 in
theorem writes_group (L C b o0 n cap : Nat) (xs : List Nd) (hlen0 : xs.length = n) (hn : n ≤ 120) (hfit : ∀ (i : Nat) (x : Nd), xs[i]? = some x → x.Fits) (nn : Int) (t : T) (ih : Writes L C b o0 n cap xs t) : Writes L C b o0 n cap xs (T.group nn t) := by
  intro o k bs w ha he hk hlen hw
  have hr := ha.root
  rw [show o + (T.group nn t).size - 1 = k by omega] at hr
  have hfx := hfit k _ hr
  have ha1 := Lib.hid ha
  clear ha
  simp only [T.root] at hr hfx
  have lw := hw.size
  have lb := hw.lt
  have lc := hw.lc
  have cl := hw.cl
  have hcell := hw.x.cell k _ hr
  simp only [T.size] at he
  have tp := t.size_pos
  obtain ⟨p, rfl⟩ : ∃ p, k = p + 1 := ⟨k - 1, by omega⟩
  have ea : (o : Int) + t.size - 1 = (p : Int) := by omega
  rw [ea] at hcell hfx
  have d0 : w.cell? ⟨b, o0 + (p + 1) * 10, none⟩ = some (.int .i64 7) := hcell 0 _ rfl
  have d1 : w.cell? ⟨b, o0 + (p + 1) * 10 + 1, none⟩ = some (.int .u64 0) := hcell 1 _ rfl
  have d2 : w.cell? ⟨b, o0 + (p + 1) * 10 + 2, none⟩ = some (.int .u64 0) := hcell 2 _ rfl
  have d3 : w.cell? ⟨b, o0 + (p + 1) * 10 + 3, none⟩ = some (.int .u64 0) := hcell 3 _ rfl
  have d4 : w.cell? ⟨b, o0 + (p + 1) * 10 + 4, none⟩ = some (.int .u64 0) := hcell 4 _ rfl
  have d5 : w.cell? ⟨b, o0 + (p + 1) * 10 + 5, none⟩ = some (.int .i64 p) := hcell 5 _ rfl
  have d6 : w.cell? ⟨b, o0 + (p + 1) * 10 + 6, none⟩ = some (.int .i64 0) := hcell 6 _ rfl
  have d7 : w.cell? ⟨b, o0 + (p + 1) * 10 + 7, none⟩ = some (.int .i64 0) := hcell 7 _ rfl
  have d8 : w.cell? ⟨b, o0 + (p + 1) * 10 + 8, none⟩ = some (.int .i64 0) := hcell 8 _ rfl
  have d9 : w.cell? ⟨b, o0 + (p + 1) * 10 + 9, none⟩ = some (.int .i64 nn) := hcell 9 _ rfl
  have hL : (text (T.group nn t)).length = (headText ⟨7, 0, 0, 0, 0, p, 0, 0, 0, nn⟩).length + (text t).length + 1 := by (show (40 :: _ : List UInt8).length = (40 :: _ : List UInt8).length + _ + 1; simp; omega)
  have bA := (Below.refl w.heap.size w).alloc (Nat.le_refl _) (.cells #[.int .i64 7, .int .u64 0, .int .u64 0, .int .u64 0, .int .u64 0, .int .i64 p, .int .i64 0, .int .i64 0, .int .i64 0, .int .i64 nn] 37)
  have hwA := hw.below bA
  have X1 := NB.new w ⟨7, 0, 0, 0, 0, p, 0, 0, 0, nn⟩
  have HH := Lib.hid (head_k 7 0 0 0 0 p 0 0 0 nn hfx (by omega) _ (hw.fit _ (bA.mono (by omega))))
  obtain ⟨ht, hht⟩ : ∃ l, l = headText ⟨7, 0, 0, 0, 0, p, 0, 0, 0, nn⟩ := ⟨_, rfl⟩
  rw [← hht] at HH
  have hlh : bs.length + ht.length ≤ 100000000 := by rw [hht]; omega
  have HT := Lib.hid hht
  clear hht hcell
  obtain ⟨S, hS⟩ : ∃ S : ByteArray, S = ⟨ht.toArray⟩ := ⟨_, rfl⟩
  have hSs : S.size = ht.length := by rw [hS]; simp [ByteArray.size]
  have hSc : Lib.strCells S = Lib.byteCells ht := by rw [hS]; rfl
  rw [← hS] at HH
  clear hS
  go_enter Tryz.func29, Tryz.ntmps29
  go_wp2_with fail
  refine HH.out.mono ?_
  rintro e W1 ⟨rfl, hB1⟩
  have hw1 := hwA.below hB1
  have k1 : SK L C w W1 := (SK.of bA (by omega)).trans (SK.of hB1 (by have := hwA.size; omega))
  have WW := Lib.hid (wstr_c L C bs S W1 hw1.sb (by omega) (by have := hw1.size; omega))
  go_wp2_with fail
  refine WW.out.mono ?_
  rintro e W2 ⟨rfl, hs2, k2⟩
  rw [hSc] at hs2
  have hw2 := hw1.sk k2 hs2
  have k12 := k1.trans k2
  have X2 := (X1.below hB1 X1.lt).sk k2 (by omega)
  have y0 : W2.cell? ⟨w.heap.size, 0, none⟩ = some (.int .i64 7) := X2.c 0
  have y5 : W2.cell? ⟨w.heap.size, 5, none⟩ = some (.int .i64 p) := X2.c 5
  have cf2 := hw2.cf
  have IA := Lib.hid (ih o p (bs ++ Lib.byteCells ht) W2 ha1.out.1 (by omega) (by omega) (by rw [List.length_append, cells_len, HT.out]; omega) hw2)
  go_wp2_with fail
  refine IA.out.mono ?_
  rintro e W3 ⟨rfl, hw3, k3⟩
  have WB := Lib.hid (wbyte_c L C (bs ++ Lib.byteCells ht ++ Lib.byteCells (text t)) 41 W3 hw3.sb (by rw [List.length_append, List.length_append, cells_len, cells_len, HT.out]; omega) (by have := hw3.size; omega))
  go_wp2_with fail
  refine WB.out.mono ?_
  rintro e W4 ⟨rfl, hs4, k4⟩
  have hw4 := hw3.sk k4 hs4
  go_wp2
  go_end0
  refine ⟨rfl, ?_, (k12.trans k3).trans k4⟩
  have e1 : text (T.group nn t) = ht ++ (text t ++ [41]) := by rw [HT.out]; rfl
  rw [e1, cells_app, cells_app, ← List.append_assoc, ← List.append_assoc]
  exact hw4

set_option maxRecDepth 100000 in
set_option maxHeartbeats 40000000 in
theorem writes_two4 (L C b o0 n cap : Nat) (xs : List Nd) (hlen0 : xs.length = n) (hn : n ≤ 120) (hfit : ∀ (i : Nat) (x : Nd), xs[i]? = some x → x.Fits) (s t : T) (is : Writes L C b o0 n cap xs s) (it : Writes L C b o0 n cap xs t) : Writes L C b o0 n cap xs (T.two 4 s t) := by
  intro o k bs w ha he hk hlen hw
  have hr := ha.root
  rw [show o + (T.two 4 s t).size - 1 = k by omega] at hr
  have hfx := hfit k _ hr
  have ha1 := Lib.hid ha
  clear ha
  simp only [T.root] at hr hfx
  have lw := hw.size
  have lb := hw.lt
  have lc := hw.lc
  have cl := hw.cl
  have hcell := hw.x.cell k _ hr
  simp only [T.size] at he
  have sp := s.size_pos
  have tp := t.size_pos
  obtain ⟨q, rfl⟩ : ∃ q, k = q + 1 := ⟨k - 1, by omega⟩
  obtain ⟨p, hp⟩ : ∃ p, o + s.size = p + 1 := ⟨o + s.size - 1, by omega⟩
  have ea : (o : Int) + s.size - 1 = (p : Int) := by omega
  have eb : (o : Int) + s.size + t.size - 1 = (q : Int) := by omega
  rw [ea, eb] at hcell hfx
  have d0 : w.cell? ⟨b, o0 + (q + 1) * 10, none⟩ = some (.int .i64 4) := hcell 0 _ rfl
  have d1 : w.cell? ⟨b, o0 + (q + 1) * 10 + 1, none⟩ = some (.int .u64 0) := hcell 1 _ rfl
  have d2 : w.cell? ⟨b, o0 + (q + 1) * 10 + 2, none⟩ = some (.int .u64 0) := hcell 2 _ rfl
  have d3 : w.cell? ⟨b, o0 + (q + 1) * 10 + 3, none⟩ = some (.int .u64 0) := hcell 3 _ rfl
  have d4 : w.cell? ⟨b, o0 + (q + 1) * 10 + 4, none⟩ = some (.int .u64 0) := hcell 4 _ rfl
  have d5 : w.cell? ⟨b, o0 + (q + 1) * 10 + 5, none⟩ = some (.int .i64 p) := hcell 5 _ rfl
  have d6 : w.cell? ⟨b, o0 + (q + 1) * 10 + 6, none⟩ = some (.int .i64 q) := hcell 6 _ rfl
  have d7 : w.cell? ⟨b, o0 + (q + 1) * 10 + 7, none⟩ = some (.int .i64 0) := hcell 7 _ rfl
  have d8 : w.cell? ⟨b, o0 + (q + 1) * 10 + 8, none⟩ = some (.int .i64 0) := hcell 8 _ rfl
  have d9 : w.cell? ⟨b, o0 + (q + 1) * 10 + 9, none⟩ = some (.int .i64 0) := hcell 9 _ rfl
  have hL : (text (T.two 4 s t)).length = 1 + (text s).length + (text t).length := by (simp [text]; omega)
  have hL1 : (headText ⟨4, 0, 0, 0, 0, p, q, 0, 0, 0⟩).length = 1 := rfl
  have bA := (Below.refl w.heap.size w).alloc (Nat.le_refl _) (.cells #[.int .i64 4, .int .u64 0, .int .u64 0, .int .u64 0, .int .u64 0, .int .i64 p, .int .i64 q, .int .i64 0, .int .i64 0, .int .i64 0] 37)
  have hwA := hw.below bA
  have X1 := NB.new w ⟨4, 0, 0, 0, 0, p, q, 0, 0, 0⟩
  have HH := Lib.hid (head_k 4 0 0 0 0 p q 0 0 0 hfx (by omega) _ (hw.fit _ (bA.mono (by omega))))
  obtain ⟨ht, hht⟩ : ∃ l, l = headText ⟨4, 0, 0, 0, 0, p, q, 0, 0, 0⟩ := ⟨_, rfl⟩
  rw [← hht] at HH
  have hlh : bs.length + ht.length ≤ 100000000 := by rw [hht]; omega
  have HT := Lib.hid hht
  clear hht hcell
  obtain ⟨S, hS⟩ : ∃ S : ByteArray, S = ⟨ht.toArray⟩ := ⟨_, rfl⟩
  have hSs : S.size = ht.length := by rw [hS]; simp [ByteArray.size]
  have hSc : Lib.strCells S = Lib.byteCells ht := by rw [hS]; rfl
  rw [← hS] at HH
  clear hS
  go_enter Tryz.func29, Tryz.ntmps29
  go_wp2_with fail
  refine HH.out.mono ?_
  rintro e W1 ⟨rfl, hB1⟩
  have hw1 := hwA.below hB1
  have k1 : SK L C w W1 := (SK.of bA (by omega)).trans (SK.of hB1 (by have := hwA.size; omega))
  have WW := Lib.hid (wstr_c L C bs S W1 hw1.sb (by omega) (by have := hw1.size; omega))
  go_wp2_with fail
  refine WW.out.mono ?_
  rintro e W2 ⟨rfl, hs2, k2⟩
  rw [hSc] at hs2
  have hw2 := hw1.sk k2 hs2
  have k12 := k1.trans k2
  have X2 := (X1.below hB1 X1.lt).sk k2 (by omega)
  have y0 : W2.cell? ⟨w.heap.size, 0, none⟩ = some (.int .i64 4) := X2.c 0
  have y5 : W2.cell? ⟨w.heap.size, 5, none⟩ = some (.int .i64 p) := X2.c 5
  have cf2 := hw2.cf
  have IA := Lib.hid (is o p (bs ++ Lib.byteCells ht) W2 ha1.out.1 (by omega) (by omega) (by rw [List.length_append, cells_len, HT.out]; omega) hw2)
  go_wp2_with fail
  refine IA.out.mono ?_
  rintro e W3 ⟨rfl, hw3, k3⟩
  have X3 := X2.sk k3 (by omega)
  have y6 : W3.cell? ⟨w.heap.size, 6, none⟩ = some (.int .i64 q) := X3.c 6
  have cf3 := hw3.cf
  have IB := Lib.hid (it (o + s.size) q (bs ++ Lib.byteCells ht ++ Lib.byteCells (text s)) W3 ha1.out.2.1 (by omega) (by omega) (by rw [List.length_append, List.length_append, cells_len, cells_len, HT.out]; omega) hw3)
  go_wp2_with fail
  refine IB.out.mono ?_
  rintro e W4 ⟨rfl, hw4, k4⟩
  go_wp2
  go_end0
  refine ⟨rfl, ?_, (k12.trans k3).trans k4⟩
  have e1 : text (T.two 4 s t) = ht ++ (text s ++ text t) := by rw [HT.out]; rfl
  rw [e1, cells_app, cells_app, ← List.append_assoc, ← List.append_assoc]
  exact hw4

set_option maxRecDepth 100000 in
set_option maxHeartbeats 40000000 in
theorem writes_two5 (L C b o0 n cap : Nat) (xs : List Nd) (hlen0 : xs.length = n) (hn : n ≤ 120) (hfit : ∀ (i : Nat) (x : Nd), xs[i]? = some x → x.Fits) (s t : T) (is : Writes L C b o0 n cap xs s) (it : Writes L C b o0 n cap xs t) : Writes L C b o0 n cap xs (T.two 5 s t) := by
  intro o k bs w ha he hk hlen hw
  have hr := ha.root
  rw [show o + (T.two 5 s t).size - 1 = k by omega] at hr
  have hfx := hfit k _ hr
  have ha1 := Lib.hid ha
  clear ha
  simp only [T.root] at hr hfx
  have lw := hw.size
  have lb := hw.lt
  have lc := hw.lc
  have cl := hw.cl
  have hcell := hw.x.cell k _ hr
  simp only [T.size] at he
  have sp := s.size_pos
  have tp := t.size_pos
  obtain ⟨q, rfl⟩ : ∃ q, k = q + 1 := ⟨k - 1, by omega⟩
  obtain ⟨p, hp⟩ : ∃ p, o + s.size = p + 1 := ⟨o + s.size - 1, by omega⟩
  have ea : (o : Int) + s.size - 1 = (p : Int) := by omega
  have eb : (o : Int) + s.size + t.size - 1 = (q : Int) := by omega
  rw [ea, eb] at hcell hfx
  have d0 : w.cell? ⟨b, o0 + (q + 1) * 10, none⟩ = some (.int .i64 5) := hcell 0 _ rfl
  have d1 : w.cell? ⟨b, o0 + (q + 1) * 10 + 1, none⟩ = some (.int .u64 0) := hcell 1 _ rfl
  have d2 : w.cell? ⟨b, o0 + (q + 1) * 10 + 2, none⟩ = some (.int .u64 0) := hcell 2 _ rfl
  have d3 : w.cell? ⟨b, o0 + (q + 1) * 10 + 3, none⟩ = some (.int .u64 0) := hcell 3 _ rfl
  have d4 : w.cell? ⟨b, o0 + (q + 1) * 10 + 4, none⟩ = some (.int .u64 0) := hcell 4 _ rfl
  have d5 : w.cell? ⟨b, o0 + (q + 1) * 10 + 5, none⟩ = some (.int .i64 p) := hcell 5 _ rfl
  have d6 : w.cell? ⟨b, o0 + (q + 1) * 10 + 6, none⟩ = some (.int .i64 q) := hcell 6 _ rfl
  have d7 : w.cell? ⟨b, o0 + (q + 1) * 10 + 7, none⟩ = some (.int .i64 0) := hcell 7 _ rfl
  have d8 : w.cell? ⟨b, o0 + (q + 1) * 10 + 8, none⟩ = some (.int .i64 0) := hcell 8 _ rfl
  have d9 : w.cell? ⟨b, o0 + (q + 1) * 10 + 9, none⟩ = some (.int .i64 0) := hcell 9 _ rfl
  have hL : (text (T.two 5 s t)).length = 1 + (text s).length + (text t).length := by (simp [text]; omega)
  have hL1 : (headText ⟨5, 0, 0, 0, 0, p, q, 0, 0, 0⟩).length = 1 := rfl
  have bA := (Below.refl w.heap.size w).alloc (Nat.le_refl _) (.cells #[.int .i64 5, .int .u64 0, .int .u64 0, .int .u64 0, .int .u64 0, .int .i64 p, .int .i64 q, .int .i64 0, .int .i64 0, .int .i64 0] 37)
  have hwA := hw.below bA
  have X1 := NB.new w ⟨5, 0, 0, 0, 0, p, q, 0, 0, 0⟩
  have HH := Lib.hid (head_k 5 0 0 0 0 p q 0 0 0 hfx (by omega) _ (hw.fit _ (bA.mono (by omega))))
  obtain ⟨ht, hht⟩ : ∃ l, l = headText ⟨5, 0, 0, 0, 0, p, q, 0, 0, 0⟩ := ⟨_, rfl⟩
  rw [← hht] at HH
  have hlh : bs.length + ht.length ≤ 100000000 := by rw [hht]; omega
  have HT := Lib.hid hht
  clear hht hcell
  obtain ⟨S, hS⟩ : ∃ S : ByteArray, S = ⟨ht.toArray⟩ := ⟨_, rfl⟩
  have hSs : S.size = ht.length := by rw [hS]; simp [ByteArray.size]
  have hSc : Lib.strCells S = Lib.byteCells ht := by rw [hS]; rfl
  rw [← hS] at HH
  clear hS
  go_enter Tryz.func29, Tryz.ntmps29
  go_wp2_with fail
  refine HH.out.mono ?_
  rintro e W1 ⟨rfl, hB1⟩
  have hw1 := hwA.below hB1
  have k1 : SK L C w W1 := (SK.of bA (by omega)).trans (SK.of hB1 (by have := hwA.size; omega))
  have WW := Lib.hid (wstr_c L C bs S W1 hw1.sb (by omega) (by have := hw1.size; omega))
  go_wp2_with fail
  refine WW.out.mono ?_
  rintro e W2 ⟨rfl, hs2, k2⟩
  rw [hSc] at hs2
  have hw2 := hw1.sk k2 hs2
  have k12 := k1.trans k2
  have X2 := (X1.below hB1 X1.lt).sk k2 (by omega)
  have y0 : W2.cell? ⟨w.heap.size, 0, none⟩ = some (.int .i64 5) := X2.c 0
  have y5 : W2.cell? ⟨w.heap.size, 5, none⟩ = some (.int .i64 p) := X2.c 5
  have cf2 := hw2.cf
  have IA := Lib.hid (is o p (bs ++ Lib.byteCells ht) W2 ha1.out.1 (by omega) (by omega) (by rw [List.length_append, cells_len, HT.out]; omega) hw2)
  go_wp2_with fail
  refine IA.out.mono ?_
  rintro e W3 ⟨rfl, hw3, k3⟩
  have X3 := X2.sk k3 (by omega)
  have y6 : W3.cell? ⟨w.heap.size, 6, none⟩ = some (.int .i64 q) := X3.c 6
  have cf3 := hw3.cf
  have IB := Lib.hid (it (o + s.size) q (bs ++ Lib.byteCells ht ++ Lib.byteCells (text s)) W3 ha1.out.2.1 (by omega) (by omega) (by rw [List.length_append, List.length_append, cells_len, cells_len, HT.out]; omega) hw3)
  go_wp2_with fail
  refine IB.out.mono ?_
  rintro e W4 ⟨rfl, hw4, k4⟩
  go_wp2
  go_end0
  refine ⟨rfl, ?_, (k12.trans k3).trans k4⟩
  have e1 : text (T.two 5 s t) = ht ++ (text s ++ text t) := by rw [HT.out]; rfl
  rw [e1, cells_app, cells_app, ← List.append_assoc, ← List.append_assoc]
  exact hw4

end Go.Proofs.YthbldjiibgnfmaaGreatDoor
