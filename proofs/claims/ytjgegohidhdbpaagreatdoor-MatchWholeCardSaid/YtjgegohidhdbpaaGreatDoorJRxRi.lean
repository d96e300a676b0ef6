/- The reference's through: a Times. -/
import Derived.Test.YtjgegohidhdbpaaGreatDoorJRxRf
import Derived.Deep.RegionHeld3
open Go.Proofs.Tryz
set_option linter.unusedVariables false
set_option linter.unusedSimpArgs false
set_option maxRecDepth 100000
set_option maxHeartbeats 40000000
namespace Go.Proofs.YtjgegohidhdbpaaGreatDoor
open Go.RowKit
theorem WB.storeC {w : World} {b : Nat} {v : Array Value} (h : WB w b v) (hs : v.size = 13) (C : Array Value) (hc : C.size = 13) (ha : C.all (·.oneCell') = true) : (Go.storeCells ⟨b, 0, none⟩ C.toList).run prog w = .ok () (w.setRow b C) := by
 have := run_storeVar_row (P := prog) w b 142 142 v C h.heap (by rw [KF, hc]) (by rw [hs, hc]) ha
 have hz := KF
 cases hq : Tryz.prog.info? 142 with
 | none => simp [hq] at hz
 | some i =>
  have h2 : i.size = 13 := by simpa [hq] using hz
  simpa [storeVar, sizeOf, typeInfo, hq, Value.cells, h2, hc] using this
theorem GG (b o0 n cap : Nat) (xs : List Nd) (qq : xs.length = n) (hn : n ≤ 120) (m M : Int) (t : T) (ih : yH b o0 n cap xs t) : yH b o0 n cap xs (T.times m M t) := by
 rintro o k ⟨g, j, en, r⟩ w ha he hk hj hw
 have hr := ha.root
 rw [show o + (T.times m M t).size - 1 = k by omega] at hr
 have lb := hw.lt
 have zO : (k : Int) < n := by omega
 have vT := ha.1
 have sa := t.size_pos
 simp only [T.size] at he hj
 simp only [T.root] at hr
 obtain ⟨pa, GY⟩ : ∃ pa : Nat, o + t.size = pa + 1 := ⟨o + t.size - 1, by omega⟩
 rw [show (o : Int) + t.size - 1 = (pa : Int) by omega] at hr
 have qu := hw.cell k _ hr
 have d_ := zB qu
 have VO := vT.root
 rw [show o + t.size - 1 = pa by omega] at VO
 have q0 : w.cell? ⟨b, o0 + pa * 10, none⟩ = some (.int .i64 (rk t)) := by rw [← Q3 t o]; exact hw.cell pa _ VO 0 _ rfl
 have hpn : (pa : Int) < n := by omega
 have et : ∀ S, jo (decide (n = 1)) (T.times m M t) S = jo (decide (n = 1)) t ⟨S.g && jf t, S.k, S.en, S.r⟩ := fun S => rfl
 rw [et]
 have ek : jf t = (decide (rk t = 1) || decide (rk t = 7) || decide (rk t = 8)) := rfl
 clear qu et
 by_cases k1 : rk t = 1
 ·have f1 : (rk t == 1) = true := by simp [k1]
  rw [show jf t = true by rw [ek]; simp [k1], Bool.and_true]
  clear ek hr VO
  have IA := ih o pa ⟨g, j, en, r⟩ _ vT GY (by omega) (by show j + t.size ≤ 1000; omega) (((hw.alloc (.cells #[.bool g, .int .i64 j, .bool (en 0), .bool (en 1), .bool (en 2), .bool (en 3), .bool (en 4), .bool (en 5), .bool (en 6), .bool (en 7), .bool (en 8), .bool (en 9), .bool r] 142)).alloc (.cells #[.bool false, .int .i64 0, .bool false, .bool false, .bool false, .bool false, .bool false, .bool false, .bool false, .bool false, .bool false, .bool false, .bool false] 142)).alloc (.cells #[.int .i64 6, .int .u64 0, .int .u64 0, .int .u64 0, .int .u64 0, .int .i64 pa, .int .i64 0, .int .i64 m, .int .i64 M, .int .i64 0] 73))
  have hS0 : Ks w b o0 xs ⟨6, 0, 0, 0, 0, pa, 0, m, M, 0⟩ ⟨g, j, en, r⟩ (((w.alloc (.cells #[.bool g, .int .i64 j, .bool (en 0), .bool (en 1), .bool (en 2), .bool (en 3), .bool (en 4), .bool (en 5), .bool (en 6), .bool (en 7), .bool (en 8), .bool (en 9), .bool r] 142)).alloc (.cells #[.bool false, .int .i64 0, .bool false, .bool false, .bool false, .bool false, .bool false, .bool false, .bool false, .bool false, .bool false, .bool false, .bool false] 142)).alloc (.cells #[.int .i64 6, .int .u64 0, .int .u64 0, .int .u64 0, .int .u64 0, .int .i64 pa, .int .i64 0, .int .i64 m, .int .i64 M, .int .i64 0] 73)) := Ks.new hw ⟨6, 0, 0, 0, 0, pa, 0, m, M, 0⟩ ⟨g, j, en, r⟩ #[.bool false, .int .i64 0, .bool false, .bool false, .bool false, .bool false, .bool false, .bool false, .bool false, .bool false, .bool false, .bool false, .bool false] rfl
  have XL : (jo (decide (n = 1)) t ⟨g, j, en, r⟩).cells.size = 13 := rfl
  have hua : (jo (decide (n = 1)) t ⟨g, j, en, r⟩).cells.all (·.oneCell') = true := Wk.cells_all _
  generalize (jo (decide (n = 1)) t ⟨g, j, en, r⟩).cells = C at *
  have IA1 := ξ IA
  clear IA
  simp only [Wk.cells] at IA1
  simp only [Wk.cells]
  have lb2 : b < w.heap.size + 1 := by omega
  have lb3 : b < w.heap.size + 1 + 1 := by omega
  have qA : (((w.alloc (.cells #[.bool g, .int .i64 j, .bool (en 0), .bool (en 1), .bool (en 2), .bool (en 3), .bool (en 4), .bool (en 5), .bool (en 6), .bool (en 7), .bool (en 8), .bool (en 9), .bool r] 142)).alloc (.cells #[.bool false, .int .i64 0, .bool false, .bool false, .bool false, .bool false, .bool false, .bool false, .bool false, .bool false, .bool false, .bool false, .bool false] 142)).alloc (.cells #[.int .i64 6, .int .u64 0, .int .u64 0, .int .u64 0, .int .u64 0, .int .i64 pa, .int .i64 0, .int .i64 m, .int .i64 M, .int .i64 0] 73)).cell? ⟨b, o0 + pa * 10, none⟩ = some (.int .i64 (rk t)) := qa _ (qa _ (qa _ q0))
  go_enter func129, ntmps129
  go_wp2_with fail
  refine IA1.out.mono ?_
  rintro e W1 ⟨rfl, qr⟩
  have XD := hS0.step qr
  obtain ⟨v1, Ko, kF⟩ := XD.rb
  have Kp := Ko.storeC kF C XL hua
  have kW := Ko.put C
  have US : Below w.heap.size w (W1.setRow (w.heap.size + 1) C) := Below.setRow XD.b (by omega) _
  go_wp2
  have ql := kW.load XL
  refine bodyPost_ret (v := .agg C) (by simp [results, results129, asAddr, Result.andThen, ql]) rfl ⟨rfl, US⟩
 have f1 : (rk t == 1) = false := by rw [beq_eq_false_iff_ne]; exact k1
 by_cases k7 : rk t = 7
 ·have f7 : (rk t == 7) = true := by simp [k7]
  rw [show jf t = true by rw [ek]; simp [k7], Bool.and_true]
  clear ek hr VO
  have IA := ih o pa ⟨g, j, en, r⟩ _ vT GY (by omega) (by show j + t.size ≤ 1000; omega) (((hw.alloc (.cells #[.bool g, .int .i64 j, .bool (en 0), .bool (en 1), .bool (en 2), .bool (en 3), .bool (en 4), .bool (en 5), .bool (en 6), .bool (en 7), .bool (en 8), .bool (en 9), .bool r] 142)).alloc (.cells #[.bool false, .int .i64 0, .bool false, .bool false, .bool false, .bool false, .bool false, .bool false, .bool false, .bool false, .bool false, .bool false, .bool false] 142)).alloc (.cells #[.int .i64 6, .int .u64 0, .int .u64 0, .int .u64 0, .int .u64 0, .int .i64 pa, .int .i64 0, .int .i64 m, .int .i64 M, .int .i64 0] 73))
  have hS0 : Ks w b o0 xs ⟨6, 0, 0, 0, 0, pa, 0, m, M, 0⟩ ⟨g, j, en, r⟩ (((w.alloc (.cells #[.bool g, .int .i64 j, .bool (en 0), .bool (en 1), .bool (en 2), .bool (en 3), .bool (en 4), .bool (en 5), .bool (en 6), .bool (en 7), .bool (en 8), .bool (en 9), .bool r] 142)).alloc (.cells #[.bool false, .int .i64 0, .bool false, .bool false, .bool false, .bool false, .bool false, .bool false, .bool false, .bool false, .bool false, .bool false, .bool false] 142)).alloc (.cells #[.int .i64 6, .int .u64 0, .int .u64 0, .int .u64 0, .int .u64 0, .int .i64 pa, .int .i64 0, .int .i64 m, .int .i64 M, .int .i64 0] 73)) := Ks.new hw ⟨6, 0, 0, 0, 0, pa, 0, m, M, 0⟩ ⟨g, j, en, r⟩ #[.bool false, .int .i64 0, .bool false, .bool false, .bool false, .bool false, .bool false, .bool false, .bool false, .bool false, .bool false, .bool false, .bool false] rfl
  have XL : (jo (decide (n = 1)) t ⟨g, j, en, r⟩).cells.size = 13 := rfl
  have hua : (jo (decide (n = 1)) t ⟨g, j, en, r⟩).cells.all (·.oneCell') = true := Wk.cells_all _
  generalize (jo (decide (n = 1)) t ⟨g, j, en, r⟩).cells = C at *
  have IA1 := ξ IA
  clear IA
  simp only [Wk.cells] at IA1
  simp only [Wk.cells]
  have lb2 : b < w.heap.size + 1 := by omega
  have lb3 : b < w.heap.size + 1 + 1 := by omega
  have qA : (((w.alloc (.cells #[.bool g, .int .i64 j, .bool (en 0), .bool (en 1), .bool (en 2), .bool (en 3), .bool (en 4), .bool (en 5), .bool (en 6), .bool (en 7), .bool (en 8), .bool (en 9), .bool r] 142)).alloc (.cells #[.bool false, .int .i64 0, .bool false, .bool false, .bool false, .bool false, .bool false, .bool false, .bool false, .bool false, .bool false, .bool false, .bool false] 142)).alloc (.cells #[.int .i64 6, .int .u64 0, .int .u64 0, .int .u64 0, .int .u64 0, .int .i64 pa, .int .i64 0, .int .i64 m, .int .i64 M, .int .i64 0] 73)).cell? ⟨b, o0 + pa * 10, none⟩ = some (.int .i64 (rk t)) := qa _ (qa _ (qa _ q0))
  go_enter func129, ntmps129
  go_wp2_with fail
  refine IA1.out.mono ?_
  rintro e W1 ⟨rfl, qr⟩
  have XD := hS0.step qr
  obtain ⟨v1, Ko, kF⟩ := XD.rb
  have Kp := Ko.storeC kF C XL hua
  have kW := Ko.put C
  have US : Below w.heap.size w (W1.setRow (w.heap.size + 1) C) := Below.setRow XD.b (by omega) _
  go_wp2
  have ql := kW.load XL
  refine bodyPost_ret (v := .agg C) (by simp [results, results129, asAddr, Result.andThen, ql]) rfl ⟨rfl, US⟩
 have f7 : (rk t == 7) = false := by rw [beq_eq_false_iff_ne]; exact k7
 by_cases k8 : rk t = 8
 ·have f8 : (rk t == 8) = true := by simp [k8]
  rw [show jf t = true by rw [ek]; simp [k8], Bool.and_true]
  clear ek hr VO
  have IA := ih o pa ⟨g, j, en, r⟩ _ vT GY (by omega) (by show j + t.size ≤ 1000; omega) (((hw.alloc (.cells #[.bool g, .int .i64 j, .bool (en 0), .bool (en 1), .bool (en 2), .bool (en 3), .bool (en 4), .bool (en 5), .bool (en 6), .bool (en 7), .bool (en 8), .bool (en 9), .bool r] 142)).alloc (.cells #[.bool false, .int .i64 0, .bool false, .bool false, .bool false, .bool false, .bool false, .bool false, .bool false, .bool false, .bool false, .bool false, .bool false] 142)).alloc (.cells #[.int .i64 6, .int .u64 0, .int .u64 0, .int .u64 0, .int .u64 0, .int .i64 pa, .int .i64 0, .int .i64 m, .int .i64 M, .int .i64 0] 73))
  have hS0 : Ks w b o0 xs ⟨6, 0, 0, 0, 0, pa, 0, m, M, 0⟩ ⟨g, j, en, r⟩ (((w.alloc (.cells #[.bool g, .int .i64 j, .bool (en 0), .bool (en 1), .bool (en 2), .bool (en 3), .bool (en 4), .bool (en 5), .bool (en 6), .bool (en 7), .bool (en 8), .bool (en 9), .bool r] 142)).alloc (.cells #[.bool false, .int .i64 0, .bool false, .bool false, .bool false, .bool false, .bool false, .bool false, .bool false, .bool false, .bool false, .bool false, .bool false] 142)).alloc (.cells #[.int .i64 6, .int .u64 0, .int .u64 0, .int .u64 0, .int .u64 0, .int .i64 pa, .int .i64 0, .int .i64 m, .int .i64 M, .int .i64 0] 73)) := Ks.new hw ⟨6, 0, 0, 0, 0, pa, 0, m, M, 0⟩ ⟨g, j, en, r⟩ #[.bool false, .int .i64 0, .bool false, .bool false, .bool false, .bool false, .bool false, .bool false, .bool false, .bool false, .bool false, .bool false, .bool false] rfl
  have XL : (jo (decide (n = 1)) t ⟨g, j, en, r⟩).cells.size = 13 := rfl
  have hua : (jo (decide (n = 1)) t ⟨g, j, en, r⟩).cells.all (·.oneCell') = true := Wk.cells_all _
  generalize (jo (decide (n = 1)) t ⟨g, j, en, r⟩).cells = C at *
  have IA1 := ξ IA
  clear IA
  simp only [Wk.cells] at IA1
  simp only [Wk.cells]
  have lb2 : b < w.heap.size + 1 := by omega
  have lb3 : b < w.heap.size + 1 + 1 := by omega
  have qA : (((w.alloc (.cells #[.bool g, .int .i64 j, .bool (en 0), .bool (en 1), .bool (en 2), .bool (en 3), .bool (en 4), .bool (en 5), .bool (en 6), .bool (en 7), .bool (en 8), .bool (en 9), .bool r] 142)).alloc (.cells #[.bool false, .int .i64 0, .bool false, .bool false, .bool false, .bool false, .bool false, .bool false, .bool false, .bool false, .bool false, .bool false, .bool false] 142)).alloc (.cells #[.int .i64 6, .int .u64 0, .int .u64 0, .int .u64 0, .int .u64 0, .int .i64 pa, .int .i64 0, .int .i64 m, .int .i64 M, .int .i64 0] 73)).cell? ⟨b, o0 + pa * 10, none⟩ = some (.int .i64 (rk t)) := qa _ (qa _ (qa _ q0))
  go_enter func129, ntmps129
  go_wp2_with fail
  refine IA1.out.mono ?_
  rintro e W1 ⟨rfl, qr⟩
  have XD := hS0.step qr
  obtain ⟨v1, Ko, kF⟩ := XD.rb
  have Kp := Ko.storeC kF C XL hua
  have kW := Ko.put C
  have US : Below w.heap.size w (W1.setRow (w.heap.size + 1) C) := Below.setRow XD.b (by omega) _
  go_wp2
  have ql := kW.load XL
  refine bodyPost_ret (v := .agg C) (by simp [results, results129, asAddr, Result.andThen, ql]) rfl ⟨rfl, US⟩
 ·have f8 : (rk t == 8) = false := by rw [beq_eq_false_iff_ne]; exact k8
  have g1 : (rk t != 1) = true := by simp [k1]
  have g7 : (rk t != 7) = true := by simp [k7]
  have g8 : (rk t != 8) = true := by simp [k8]
  rw [show jf t = false by rw [ek]; simp [k1, k7, k8], Bool.and_false]
  clear ek hr VO
  have IA := ih o pa ⟨false, j, en, r⟩ _ vT GY (by omega) (by show j + t.size ≤ 1000; omega) (((hw.alloc (.cells #[.bool false, .int .i64 j, .bool (en 0), .bool (en 1), .bool (en 2), .bool (en 3), .bool (en 4), .bool (en 5), .bool (en 6), .bool (en 7), .bool (en 8), .bool (en 9), .bool r] 142)).alloc (.cells #[.bool false, .int .i64 0, .bool false, .bool false, .bool false, .bool false, .bool false, .bool false, .bool false, .bool false, .bool false, .bool false, .bool false] 142)).alloc (.cells #[.int .i64 6, .int .u64 0, .int .u64 0, .int .u64 0, .int .u64 0, .int .i64 pa, .int .i64 0, .int .i64 m, .int .i64 M, .int .i64 0] 73))
  have hS0 : Ks w b o0 xs ⟨6, 0, 0, 0, 0, pa, 0, m, M, 0⟩ ⟨false, j, en, r⟩ (((w.alloc (.cells #[.bool false, .int .i64 j, .bool (en 0), .bool (en 1), .bool (en 2), .bool (en 3), .bool (en 4), .bool (en 5), .bool (en 6), .bool (en 7), .bool (en 8), .bool (en 9), .bool r] 142)).alloc (.cells #[.bool false, .int .i64 0, .bool false, .bool false, .bool false, .bool false, .bool false, .bool false, .bool false, .bool false, .bool false, .bool false, .bool false] 142)).alloc (.cells #[.int .i64 6, .int .u64 0, .int .u64 0, .int .u64 0, .int .u64 0, .int .i64 pa, .int .i64 0, .int .i64 m, .int .i64 M, .int .i64 0] 73)) := Ks.new hw ⟨6, 0, 0, 0, 0, pa, 0, m, M, 0⟩ ⟨false, j, en, r⟩ #[.bool false, .int .i64 0, .bool false, .bool false, .bool false, .bool false, .bool false, .bool false, .bool false, .bool false, .bool false, .bool false, .bool false] rfl
  have XL : (jo (decide (n = 1)) t ⟨false, j, en, r⟩).cells.size = 13 := rfl
  have hua : (jo (decide (n = 1)) t ⟨false, j, en, r⟩).cells.all (·.oneCell') = true := Wk.cells_all _
  generalize (jo (decide (n = 1)) t ⟨false, j, en, r⟩).cells = C at *
  have IA1 := ξ IA
  clear IA
  simp only [Wk.cells] at IA1
  simp only [Wk.cells]
  have lb2 : b < w.heap.size + 1 := by omega
  have lb3 : b < w.heap.size + 1 + 1 := by omega
  have qA : (((w.alloc (.cells #[.bool false, .int .i64 j, .bool (en 0), .bool (en 1), .bool (en 2), .bool (en 3), .bool (en 4), .bool (en 5), .bool (en 6), .bool (en 7), .bool (en 8), .bool (en 9), .bool r] 142)).alloc (.cells #[.bool false, .int .i64 0, .bool false, .bool false, .bool false, .bool false, .bool false, .bool false, .bool false, .bool false, .bool false, .bool false, .bool false] 142)).alloc (.cells #[.int .i64 6, .int .u64 0, .int .u64 0, .int .u64 0, .int .u64 0, .int .i64 pa, .int .i64 0, .int .i64 m, .int .i64 M, .int .i64 0] 73)).cell? ⟨b, o0 + pa * 10, none⟩ = some (.int .i64 (rk t)) := qa _ (qa _ (qa _ q0))
  go_enter func129, ntmps129
  go_wp2_with fail
  refine IA1.out.mono ?_
  rintro e W1 ⟨rfl, qr⟩
  have XD := hS0.step qr
  obtain ⟨v1, Ko, kF⟩ := XD.rb
  have Kp := Ko.storeC kF C XL hua
  have kW := Ko.put C
  have US : Below w.heap.size w (W1.setRow (w.heap.size + 1) C) := Below.setRow XD.b (by omega) _
  go_wp2
  have ql := kW.load XL
  refine bodyPost_ret (v := .agg C) (by simp [results, results129, asAddr, Result.andThen, ql]) rfl ⟨rfl, US⟩
theorem T.groups_le : ∀ t : T, t.groups ≤ t.size
 | .leaf _ => by simp [T.groups, T.size]
 | .two _ a b => by have := T.groups_le a; have := T.groups_le b; simp only [T.groups, T.size]; omega
 | .times _ _ t => by have := T.groups_le t; simp only [T.groups, T.size]; omega
 | .group _ t => by have := T.groups_le t; simp only [T.groups, T.size]; omega
theorem qn.setRow {w : World} {b o : Nat} {xs : List Nd} (h : qn w b o xs) {B : Nat} (hb : b ≠ B) (C : Array Value) : qn (w.setRow B C) b o xs := by
 have hk : (w.setRow B C).heap[b]? = w.heap[b]? := by
  show (w.heap.modify B _)[b]? = _
  rw [Array.getElem?_modify, if_neg (fun e => hb e.symm)]
 refine ⟨by have := h.lt; simpa [World.setRow] using this, fun i x hx j v hv => ?_⟩
 have := h.cell i x hx j v hv
 unfold World.cell? at this ⊢
 rw [hk]
 exact this
theorem yo {w : World} {B k : Nat} (C : Array Value) (hk : k ≠ B) : (w.setRow B C).heap[k]? = w.heap[k]? := by
 show (w.heap.modify B _)[k]? = _
 rw [Array.getElem?_modify, if_neg (fun e => hk e.symm)]
theorem Ks.put {w w1 : World} {b o : Nat} {xs : List Nd} {x : Nd} {W : Wk} (h : Ks w b o xs x W w1) (lb : b < w.heap.size) (C : Array Value) (hc : C.size = 13) : Ks w b o xs x W (w1.setRow (w.heap.size + 1) C) := by
 obtain ⟨v, hv, hz⟩ := h.rb
 exact ⟨h.nodes.setRow (by omega) C, ⟨(yo C (by omega)).trans h.wb.heap⟩, ⟨C, hv.put C, hc⟩, (yo C (by omega)).trans h.nb, Below.setRow h.b (by omega) _⟩
theorem Up (b o0 n cap : Nat) (xs : List Nd) (qq : xs.length = n) (hn : n ≤ 120) (kd : Int) (ks : kd = 4 ∨ kd = 5) (a c : T) (iha : yH b o0 n cap xs a) (ihc : yH b o0 n cap xs c) : yH b o0 n cap xs (T.two kd a c) := by
 rintro o k ⟨g, j, en, r⟩ w ha he hk hj hw
 have hr := ha.root
 rw [show o + (T.two kd a c).size - 1 = k by omega] at hr
 have lb := hw.lt
 have zO : (k : Int) < n := by omega
 have vT := ha.1
 have yp := ha.2.1
 have sa := a.size_pos
 have sc := c.size_pos
 simp only [T.size] at he hj
 simp only [T.root] at hr
 obtain ⟨pa, GY⟩ : ∃ pa : Nat, o + a.size = pa + 1 := ⟨o + a.size - 1, by omega⟩
 obtain ⟨pc, hpc⟩ : ∃ pc : Nat, o + a.size + c.size = pc + 1 := ⟨o + a.size + c.size - 1, by omega⟩
 rw [show (o : Int) + a.size - 1 = (pa : Int) by omega, show (o : Int) + a.size + c.size - 1 = (pc : Int) by omega] at hr
 have qu := hw.cell k _ hr
 have d_ := zB qu
 have VO := vT.root
 have hrc := yp.root
 rw [show o + a.size - 1 = pa by omega] at VO
 rw [show o + a.size + c.size - 1 = pc by omega] at hrc
 have q0 : w.cell? ⟨b, o0 + pa * 10, none⟩ = some (.int .i64 (rk a)) := by rw [← Q3 a o]; exact hw.cell pa _ VO 0 _ rfl
 have q1 : w.cell? ⟨b, o0 + pc * 10, none⟩ = some (.int .i64 (rk c)) := by rw [← Q3 c (o + a.size)]; exact hw.cell pc _ hrc 0 _ rfl
 have hpn : (pa : Int) < n := by omega
 have hpm : (pc : Int) < n := by omega
 have et : ∀ S, jo (decide (n = 1)) (T.two kd a c) S = jo (decide (n = 1)) c (jo (decide (n = 1)) a ⟨S.g && yf kd a c, S.k, S.en, S.r⟩) := fun S => rfl
 rw [et]
 obtain ⟨G, hG⟩ : ∃ G : Bool, G = (g && yf kd a c) := ⟨_, rfl⟩
 rw [← hG]
 have hc : ((kd == 4) = true ∧ (rk a == 4) = true ∧ G = false) ∨ ((kd == 4) = true ∧ (rk a == 4) = false ∧ (rk a == 5) = true ∧ G = false) ∨ ((kd == 4) = true ∧ (rk a == 4) = false ∧ (rk a == 5) = false ∧ (rk c == 5) = true ∧ G = false) ∨ ((kd == 4) = true ∧ (rk a == 4) = false ∧ (rk a == 5) = false ∧ (rk c == 5) = false ∧ G = g) ∨ ((kd == 4) = false ∧ (kd == 5) = true ∧ (rk a == 5) = true ∧ G = false) ∨ ((kd == 4) = false ∧ (kd == 5) = true ∧ (rk a == 5) = false ∧ G = g) := by
  rcases ks with rfl | rfl
  ·rw [show yf 4 a c = !(decide (rk a = 4) || decide (rk a = 5) || decide (rk c = 5)) from rfl] at hG
   by_cases k4 : rk a = 4
   ·exact Or.inl ⟨rfl, by simp [k4], by simp [hG, k4]⟩
   by_cases k5 : rk a = 5
   ·exact Or.inr (Or.inl ⟨rfl, by simp [k4], by simp [k5], by simp [hG, k5]⟩)
   by_cases k6 : rk c = 5
   ·exact Or.inr (Or.inr (Or.inl ⟨rfl, by simp [k4], by simp [k5], by simp [k6], by simp [hG, k6]⟩))
   ·exact Or.inr (Or.inr (Or.inr (Or.inl ⟨rfl, by simp [k4], by simp [k5], by simp [k6], by simp [hG, k4, k5, k6]⟩)))
  ·rw [show yf 5 a c = !decide (rk a = 5) from rfl] at hG
   by_cases k5 : rk a = 5
   ·exact Or.inr (Or.inr (Or.inr (Or.inr (Or.inl ⟨rfl, rfl, by simp [k5], by simp [hG, k5]⟩))))
   ·exact Or.inr (Or.inr (Or.inr (Or.inr (Or.inr ⟨rfl, rfl, by simp [k5], by simp [hG, k5]⟩))))
 clear hG ks qu et hr VO hrc
 have IA := fun w' hx => iha o pa ⟨G, j, en, r⟩ w' vT GY (by omega) (by show j + a.size ≤ 1000; omega) hx
 have hS0 : Ks w b o0 xs ⟨kd, 0, 0, 0, 0, pa, pc, 0, 0, 0⟩ ⟨G, j, en, r⟩ (((w.alloc (.cells #[.bool G, .int .i64 j, .bool (en 0), .bool (en 1), .bool (en 2), .bool (en 3), .bool (en 4), .bool (en 5), .bool (en 6), .bool (en 7), .bool (en 8), .bool (en 9), .bool r] 142)).alloc (.cells #[.bool false, .int .i64 0, .bool false, .bool false, .bool false, .bool false, .bool false, .bool false, .bool false, .bool false, .bool false, .bool false, .bool false] 142)).alloc (.cells #[.int .i64 kd, .int .u64 0, .int .u64 0, .int .u64 0, .int .u64 0, .int .i64 pa, .int .i64 pc, .int .i64 0, .int .i64 0, .int .i64 0] 73)) := Ks.new hw ⟨kd, 0, 0, 0, 0, pa, pc, 0, 0, 0⟩ ⟨G, j, en, r⟩ #[.bool false, .int .i64 0, .bool false, .bool false, .bool false, .bool false, .bool false, .bool false, .bool false, .bool false, .bool false, .bool false, .bool false] rfl
 have hU : (jo (decide (n = 1)) a ⟨G, j, en, r⟩).k + c.size ≤ 1000 := by rw [V8]; have := T.groups_le a; show j + a.groups + c.size ≤ 1000; omega
 generalize jo (decide (n = 1)) a ⟨G, j, en, r⟩ = U at *
 have IC := fun w' hx => ihc (o + a.size) pc U w' yp hpc (by omega) hU hx
 have XL : (jo (decide (n = 1)) c U).cells.size = 13 := rfl
 have hua : (jo (decide (n = 1)) c U).cells.all (·.oneCell') = true := Wk.cells_all _
 generalize (jo (decide (n = 1)) c U).cells = C at *
 have uu : ∃ D, D = U.cells := ⟨_, rfl⟩
 obtain ⟨D, hD⟩ := uu
 rw [← hD] at IA IC
 have IA1 := ξ IA
 have IC1 := ξ IC
 clear IA IC iha ihc hD hU
 simp only [Wk.cells] at IA1
 simp only [Wk.cells]
 have qA : (((w.alloc (.cells #[.bool g, .int .i64 j, .bool (en 0), .bool (en 1), .bool (en 2), .bool (en 3), .bool (en 4), .bool (en 5), .bool (en 6), .bool (en 7), .bool (en 8), .bool (en 9), .bool r] 142)).alloc (.cells #[.bool false, .int .i64 0, .bool false, .bool false, .bool false, .bool false, .bool false, .bool false, .bool false, .bool false, .bool false, .bool false, .bool false] 142)).alloc (.cells #[.int .i64 kd, .int .u64 0, .int .u64 0, .int .u64 0, .int .u64 0, .int .i64 pa, .int .i64 pc, .int .i64 0, .int .i64 0, .int .i64 0] 73)).cell? ⟨b, o0 + pa * 10, none⟩ = some (.int .i64 (rk a)) := qa _ (qa _ (qa _ q0))
 have qC : (((w.alloc (.cells #[.bool g, .int .i64 j, .bool (en 0), .bool (en 1), .bool (en 2), .bool (en 3), .bool (en 4), .bool (en 5), .bool (en 6), .bool (en 7), .bool (en 8), .bool (en 9), .bool r] 142)).alloc (.cells #[.bool false, .int .i64 0, .bool false, .bool false, .bool false, .bool false, .bool false, .bool false, .bool false, .bool false, .bool false, .bool false, .bool false] 142)).alloc (.cells #[.int .i64 kd, .int .u64 0, .int .u64 0, .int .u64 0, .int .u64 0, .int .i64 pa, .int .i64 pc, .int .i64 0, .int .i64 0, .int .i64 0] 73)).cell? ⟨b, o0 + pc * 10, none⟩ = some (.int .i64 (rk c)) := qa _ (qa _ (qa _ q1))
 have lb2 : b < w.heap.size + 1 := by omega
 have lb3 : b < w.heap.size + 1 + 1 := by omega
 rcases hc with ⟨f0, f4, hG⟩ | ⟨f0, f4, f5, hG⟩ | ⟨f0, f4, f5, f6, hG⟩ | ⟨f0, f4, f5, f6, hG⟩ | ⟨f0, f1, f5, hG⟩ | ⟨f0, f1, f5, hG⟩
 all_goals
  have hG1 := ξ hG
  clear hG
  go_enter func129, ntmps129
  go_wp2_with fail
  refine wp_region_noPanic ?_
  refine wp_region_held_drew (S := Ks w b o0 xs ⟨kd, 0, 0, 0, 0, pa, pc, 0, 0, 0⟩ ⟨G, j, en, r⟩) (by kernel_rfl) ?_ (fun qe => ?_)
  ·(try dsimp only); rw [hG1.out] at hS0 ⊢; exact hS0.drew
  refine wpAnyH_take (i := 0) (v := ?_) rfl (by kernel_rfl) (by kernel_rfl) (by kernel_rfl) (fun _ _ _ h => h) (Or.inl ⟨by kernel_rfl, ?_⟩) (by assumption) ?_
  rotate_left
  ·(intro w qi; (try dsimp only at qi); go_simp); (try with_reducible rfl)
  try simp only [Act.put, jE]
  refine wpAnyH_take (i := 1) (v := ?_) rfl (by kernel_rfl) (by kernel_rfl) (by kernel_rfl) (fun _ _ _ h => h) (Or.inl ⟨by kernel_rfl, ?_⟩) (by assumption) ?_
  rotate_left
  ·(intro w qi; (try dsimp only at qi); go_simp); (try with_reducible rfl)
  try simp only [Act.put, jE]
  refine wpAnyH_take (i := 2) (v := ?_) rfl (by kernel_rfl) (by kernel_rfl) (by kernel_rfl) (fun _ _ _ h => h) (Or.inl ⟨by kernel_rfl, ?_⟩) (by assumption) ?_
  rotate_left
  ·(intro w9 qi; have z6 : w9.cell? ⟨w.heap.size + 1 + 1, 6, none⟩ = some (.int .i64 pc) := (qi.ncell 6).trans rfl; go_simp); (try with_reducible rfl)
  try simp only [Act.put, jE]
  refine wpAnyH_take (i := 3) (v := ?_) rfl (by kernel_rfl) (by kernel_rfl) (by kernel_rfl) (fun _ _ _ h => h) (Or.inl ⟨by kernel_rfl, ?_⟩) (by assumption) ?_
  rotate_left
  ·(intro w qi; (try dsimp only at qi); go_simp); (try with_reducible rfl)
  try simp only [Act.put, jE]
  refine wpAnyH_take (i := 4) (v := ?_) rfl (by kernel_rfl) (by kernel_rfl) (by kernel_rfl) (fun _ _ _ h => h) (Or.inl ⟨by kernel_rfl, ?_⟩) (by assumption) ?_
  rotate_left
  ·(intro w qi; (try dsimp only at qi); go_simp); (try with_reducible rfl)
  try simp only [Act.put, jE]
  refine wpAnyH_take (i := 5) (v := ?_) rfl (by kernel_rfl) (by kernel_rfl) (by kernel_rfl) (fun _ _ _ h => h) (Or.inl ⟨by kernel_rfl, ?_⟩) (by assumption) ?_
  rotate_left
  ·(intro w9 qi; have z5 : w9.cell? ⟨w.heap.size + 1 + 1, 5, none⟩ = some (.int .i64 pa) := (qi.ncell 5).trans rfl; go_simp); (try with_reducible rfl)
  try simp only [Act.put, jE]
  refine wpAnyH_take (i := 6) (v := ?_) rfl (by kernel_rfl) (by kernel_rfl) (by kernel_rfl) (fun _ _ _ h => h) (Or.inl ⟨by kernel_rfl, ?_⟩) (by assumption) ?_
  rotate_left
  ·(intro w9 qi; have y0 : w9.cell? ⟨w.heap.size, 0, none⟩ = some (.bool G) := (qi.wb.cell 0).trans rfl; have y1 : w9.cell? ⟨w.heap.size, 1, none⟩ = some (.int .i64 j) := (qi.wb.cell 1).trans rfl; have y2 : w9.cell? ⟨w.heap.size, 2, none⟩ = some (.bool (en 0)) := (qi.wb.cell 2).trans rfl; have y3 : w9.cell? ⟨w.heap.size, 3, none⟩ = some (.bool (en 1)) := (qi.wb.cell 3).trans rfl; have y4 : w9.cell? ⟨w.heap.size, 4, none⟩ = some (.bool (en 2)) := (qi.wb.cell 4).trans rfl; have y5 : w9.cell? ⟨w.heap.size, 5, none⟩ = some (.bool (en 3)) := (qi.wb.cell 5).trans rfl; have y6 : w9.cell? ⟨w.heap.size, 6, none⟩ = some (.bool (en 4)) := (qi.wb.cell 6).trans rfl; have y7 : w9.cell? ⟨w.heap.size, 7, none⟩ = some (.bool (en 5)) := (qi.wb.cell 7).trans rfl; have y8 : w9.cell? ⟨w.heap.size, 8, none⟩ = some (.bool (en 6)) := (qi.wb.cell 8).trans rfl; have y9 : w9.cell? ⟨w.heap.size, 9, none⟩ = some (.bool (en 7)) := (qi.wb.cell 9).trans rfl; have y10 : w9.cell? ⟨w.heap.size, 10, none⟩ = some (.bool (en 8)) := (qi.wb.cell 10).trans rfl; have y11 : w9.cell? ⟨w.heap.size, 11, none⟩ = some (.bool (en 9)) := (qi.wb.cell 11).trans rfl; have y12 : w9.cell? ⟨w.heap.size, 12, none⟩ = some (.bool r) := (qi.wb.cell 12).trans rfl; go_simp); (try with_reducible rfl)
  try simp only [Act.put, jE]
  refine zU 7 fun K hK => ?_
  go_simp
  refine (IA1.out _ qe.nodes).mono ?_
  rintro e W1 ⟨rfl, hB⟩
  have XD := qe.step hB
  clear hB qe
  refine hK.out _ _ ?_ (fun qe => ?_)
  ·(try dsimp only); exact XD
  clear hK K
  try simp only [Act.put, jE]
  refine zU 8 fun K hK => ?_
  go_simp
  refine (IC1.out _ qe.nodes).mono ?_
  rintro e W2 ⟨rfl, hB⟩
  have hS2 := qe.step hB
  clear hB qe
  refine hK.out _ _ ?_ (fun qe => ?_)
  ·(try dsimp only); exact hS2
  clear hK K
  try simp only [Act.put, jE]
  obtain ⟨v1, Ko, kF⟩ := hS2.rb
  have Kp := Ko.storeC kF C XL hua
  have kW := Ko.put C
  have hS3 := hS2.put lb C XL
  refine zU 9 fun K hK => ?_
  go_simp
  refine hK.out _ _ ?_ (fun qe => ?_)
  ·(try dsimp only); exact hS3
  clear hK K
  try simp only [Act.put, jE]
  refine wpAnyH_done (by kernel_rfl) ?_ _
  refine NoPanic.normal ?_
  go_wp2
  have ql := kW.load XL
  refine bodyPost_ret (v := .agg C) (by simp [results, results129, asAddr, Result.andThen, ql]) rfl ⟨rfl, hS3.b⟩
theorem qbQ (b o0 n cap : Nat) (xs : List Nd) (qq : xs.length = n) (hn : n ≤ 120) (a c : T) (iha : yH b o0 n cap xs a) (ihc : yH b o0 n cap xs c) : yH b o0 n cap xs (T.two 4 a c) := Up b o0 n cap xs qq hn 4 (Or.inl rfl) a c iha ihc
theorem qbR (b o0 n cap : Nat) (xs : List Nd) (qq : xs.length = n) (hn : n ≤ 120) (a c : T) (iha : yH b o0 n cap xs a) (ihc : yH b o0 n cap xs c) : yH b o0 n cap xs (T.two 5 a c) := Up b o0 n cap xs qq hn 5 (Or.inr rfl) a c iha ihc
theorem WB.loadAt {w : World} {b : Nat} {v : Array Value} (h : WB w b v) (hs : v.size = 13) : (Instr.loadAt 142 (.pointer (some ⟨b, 0, none⟩))).run prog w = .ok (.agg v) w := by
 simp only [Instr.loadAt, Instr.sureAddr, Sem.run_bind, Sem.run_pure, Result.andThen]
 exact h.load hs
theorem Vt {ops : Array Oper} {rest : List Oper} {o : Oper} {a : Act} {Q : Exit → Act → World → Prop} {w : World} {b : Nat} {v : Array Value} (h : WB w b v) (hs : v.size = 13) (hgd : o.guard = none) {x : Operand}
  (ho : o.op = .load 142 x) (hx : a.eval x = .pointer (some ⟨b, 0, none⟩)) (hK : wpList prog ops Q rest (a.put o.dst (.agg v)) w) : wpList prog ops Q (o :: rest) a w := by
 refine wpList_plain hgd fun K hK' => ?_
 unfold Oper.wp execOp
 simp only [ho, hx, h.loadAt hs, Sem.run_bind, Sem.run_pure, Result.andThen_ok]
 exact hK' _ _ hK
theorem Wk.cells_at (U : Wk) {x : Nat} (hx : x < 10) : U.cells[2 + x]? = some (.bool (U.en x)) := by
 rcases (by omega : x = 0 ∨ x = 1 ∨ x = 2 ∨ x = 3 ∨ x = 4 ∨ x = 5 ∨ x = 6 ∨ x = 7 ∨ x = 8 ∨ x = 9) with rfl | rfl | rfl | rfl | rfl | rfl | rfl | rfl | rfl | rfl <;> rfl
theorem Wk.cells_end (U : Wk) {x : Nat} (hx : x < 10) : (Wk.mk U.g U.k (fun i => if i = x then true else U.en i) U.r).cells = U.cells.setIfInBounds (2 + x) (.bool true) := by
 rcases (by omega : x = 0 ∨ x = 1 ∨ x = 2 ∨ x = 3 ∨ x = 4 ∨ x = 5 ∨ x = 6 ∨ x = 7 ∨ x = 8 ∨ x = 9) with rfl | rfl | rfl | rfl | rfl | rfl | rfl | rfl | rfl | rfl <;> rfl
theorem GH (b o0 n cap : Nat) (xs : List Nd) (qq : xs.length = n) (hn : n ≤ 120) (x : Nat) (hx : x < 10) (t : T) (ih : yH b o0 n cap xs t) : yH b o0 n cap xs (T.group x t) := by
 rintro o k ⟨g, j, en, r⟩ w ha he hk hj hw
 have hr := ha.root
 rw [show o + (T.group x t).size - 1 = k by omega] at hr
 have lb := hw.lt
 have zO : (k : Int) < n := by omega
 have vT := ha.1
 have sa := t.size_pos
 simp only [T.size] at he hj
 simp only [T.root] at hr
 obtain ⟨pa, GY⟩ : ∃ pa : Nat, o + t.size = pa + 1 := ⟨o + t.size - 1, by omega⟩
 rw [show (o : Int) + t.size - 1 = (pa : Int) by omega] at hr
 have qu := hw.cell k _ hr
 have d_ := zB qu
 have hpn : (pa : Int) < n := by omega
 have hwj : IntKind.i64.wrap ((j : Int) + 1) = (j : Int) + 1 := by simp [IntKind.wrap, IntKind.signed, IntKind.bits]; omega
 have et : jo (decide (n = 1)) (T.group x t) ⟨g, j, en, r⟩ = ⟨(jo (decide (n = 1)) t ⟨g && decide ((j : Int) + 1 = x), j + 1, en, r⟩).g, (jo (decide (n = 1)) t ⟨g && decide ((j : Int) + 1 = x), j + 1, en, r⟩).k, fun i => if i = x then true else (jo (decide (n = 1)) t ⟨g && decide ((j : Int) + 1 = x), j + 1, en, r⟩).en i, (jo (decide (n = 1)) t ⟨g && decide ((j : Int) + 1 = x), j + 1, en, r⟩).r⟩ := rfl
 rw [et]
 obtain ⟨G, hG⟩ : ∃ G : Bool, G = (g && decide ((j : Int) + 1 = x)) := ⟨_, rfl⟩
 rw [← hG]
 clear qu et hr
 have IA := ih o pa ⟨G, j + 1, en, r⟩ _ vT GY (by omega) (by show j + 1 + t.size ≤ 1000; omega) (((hw.alloc (.cells #[.bool G, .int .i64 ((j : Int) + 1), .bool (en 0), .bool (en 1), .bool (en 2), .bool (en 3), .bool (en 4), .bool (en 5), .bool (en 6), .bool (en 7), .bool (en 8), .bool (en 9), .bool r] 142)).alloc (.cells #[.bool false, .int .i64 0, .bool false, .bool false, .bool false, .bool false, .bool false, .bool false, .bool false, .bool false, .bool false, .bool false, .bool false] 142)).alloc (.cells #[.int .i64 7, .int .u64 0, .int .u64 0, .int .u64 0, .int .u64 0, .int .i64 pa, .int .i64 0, .int .i64 0, .int .i64 0, .int .i64 x] 73))
 have hS0 : Ks w b o0 xs ⟨7, 0, 0, 0, 0, pa, 0, 0, 0, x⟩ ⟨G, j + 1, en, r⟩ (((w.alloc (.cells #[.bool G, .int .i64 ((j : Int) + 1), .bool (en 0), .bool (en 1), .bool (en 2), .bool (en 3), .bool (en 4), .bool (en 5), .bool (en 6), .bool (en 7), .bool (en 8), .bool (en 9), .bool r] 142)).alloc (.cells #[.bool false, .int .i64 0, .bool false, .bool false, .bool false, .bool false, .bool false, .bool false, .bool false, .bool false, .bool false, .bool false, .bool false] 142)).alloc (.cells #[.int .i64 7, .int .u64 0, .int .u64 0, .int .u64 0, .int .u64 0, .int .i64 pa, .int .i64 0, .int .i64 0, .int .i64 0, .int .i64 x] 73)) := Ks.new hw ⟨7, 0, 0, 0, 0, pa, 0, 0, 0, x⟩ ⟨G, j + 1, en, r⟩ #[.bool false, .int .i64 0, .bool false, .bool false, .bool false, .bool false, .bool false, .bool false, .bool false, .bool false, .bool false, .bool false, .bool false] rfl
 generalize jo (decide (n = 1)) t ⟨G, j + 1, en, r⟩ = U at *
 have XL : U.cells.size = 13 := rfl
 have hua : U.cells.all (·.oneCell') = true := Wk.cells_all _
 have XG : U.cells[2 + x]? = some (.bool (U.en x)) := Wk.cells_at U hx
 have vI : (Wk.mk U.g U.k (fun i => if i = x then true else U.en i) U.r).cells = U.cells.setIfInBounds (2 + x) (.bool true) := Wk.cells_end U hx
 rw [vI]
 have hua2 : (U.cells.setIfInBounds (2 + x) (.bool true)).all (·.oneCell') = true := by rw [← vI]; exact Wk.cells_all _
 have qgU : (U.cells.setIfInBounds (2 + x) (.bool true)).size = 13 := by rw [← vI]; rfl
 generalize U.en x = eN at *
 generalize U.cells = C at *
 have IA1 := ξ IA
 clear IA vI
 simp only [Wk.cells, Int.natCast_add, Int.natCast_one] at IA1
 simp only [Wk.cells]
 have hc : (G = g ∧ ((j : Int) + 1 == x) = true ∧ ((j : Int) + 1 != x) = false) ∨ (G = false ∧ ((j : Int) + 1 == x) = false ∧ ((j : Int) + 1 != x) = true) := by
  subst hG
  by_cases h : (j : Int) + 1 = x
  ·exact Or.inl ⟨by simp [h], by simp [h], by simp [h]⟩
  ·exact Or.inr ⟨by simp [h], by rw [beq_eq_false_iff_ne]; exact h, by simp [h]⟩
 clear hG
 obtain ⟨rfl, fj, fj2⟩ | ⟨rfl, fj, fj2⟩ := hc
 all_goals
  go_enter func129, ntmps129
  go_wp2_with fail
  refine IA1.out.mono ?_
  rintro e W1 ⟨rfl, qr⟩
  have XD := hS0.step qr
  obtain ⟨v1, Ko, kF⟩ := XD.rb
  have Kp := XD.wb.storeC rfl C XL hua
  have hp5 := XD.wb.put C
  have nb5 : (W1.setRow w.heap.size C).heap[w.heap.size + 2]? = _ := (yo C (by omega)).trans XD.nb
  have rb5 : WB (W1.setRow w.heap.size C) (w.heap.size + 1) v1 := ⟨(yo C (by omega)).trans Ko.heap⟩
  have z9 : (W1.setRow w.heap.size C).cell? ⟨w.heap.size + 1 + 1, 9, none⟩ = some (.int .i64 x) := (cell_of _ _ _ _ nb5 9).trans rfl
  have z5 : (W1.setRow w.heap.size C).cell? ⟨w.heap.size, 2 + x, none⟩ = some (.bool eN) := (hp5.cell (2 + x)).trans XG
  have zf : (W1.setRow w.heap.size C).frozen? ⟨w.heap.size, 2 + x, none⟩ = false := hp5.fz (2 + x)
  have Y5 : Below w.heap.size w (W1.setRow w.heap.size C) := Below.setRow XD.b (Nat.le_refl _) _
  have h6 : ((W1.setRow w.heap.size C).setCell ⟨w.heap.size, 2 + x, none⟩ (.bool true)).heap[w.heap.size]? = some (.cells (C.setIfInBounds (2 + x) (.bool true)) 142 (0, 0)) := heap_setCell_same _ _ _ _ _ _ hp5.heap
  have wb6 : WB ((W1.setRow w.heap.size C).setCell ⟨w.heap.size, 2 + x, none⟩ (.bool true)) w.heap.size (C.setIfInBounds (2 + x) (.bool true)) := ⟨h6⟩
  have rb6 : WB ((W1.setRow w.heap.size C).setCell ⟨w.heap.size, 2 + x, none⟩ (.bool true)) (w.heap.size + 1) v1 := ⟨(Below.heap_setCell _ _ _ _ (by show w.heap.size + 1 ≠ w.heap.size; omega)).trans rb5.heap⟩
  have XR : Below w.heap.size w ((W1.setRow w.heap.size C).setCell ⟨w.heap.size, 2 + x, none⟩ (.bool true)) := Y5.setCell (Nat.le_refl _) _
  generalize hC2 : C.setIfInBounds (2 + x) (.bool true) = C2 at *
  have ql6 := wb6.load qgU
  have hst6 := rb6.storeC kF C2 qgU hua2
  have qmy := rb6.put C2
  have US := Below.setRow XR (b := w.heap.size + 1) (by omega) C2
  have HC2 := ξ hC2
  clear hC2 h6 hp5 nb5 rb5 rb6 Y5 XR XG
  go_wp2_with (refine Vt wb6 qgU rfl rfl rfl ?_)
  have ql := qmy.load qgU
  refine bodyPost_ret (v := .agg C2) (by simp [results, results129, asAddr, Result.andThen, ql]) rfl ⟨by rw [HC2.out], US⟩
theorem vK (b o0 n cap : Nat) (xs : List Nd) (qq : xs.length = n) (hn : n ≤ 120) : ∀ t : T, t.Ok → yH b o0 n cap xs t
 | .leaf ⟨kd, w0, w1, w2, w3, xa, xb, m, M, xn⟩, h => by
  have hk := h.2
  simp only at hk
  rcases hk with rfl | rfl | rfl | rfl | rfl
  ·exact GI b o0 n cap xs qq hn w0 w1 w2 w3 xa xb m M xn
  ·exact GJ b o0 n cap xs qq hn w0 w1 w2 w3 xa xb m M xn
  ·exact GK b o0 n cap xs qq hn w0 w1 w2 w3 xa xb m M xn
  ·exact GM b o0 n cap xs qq hn w0 w1 w2 w3 xa xb m M xn
  ·have h1 := h.1
   unfold qY at h1
   rw [if_neg (by simp only; omega), if_neg (by simp only; omega), if_neg (by simp only; omega), if_neg (by simp only; omega), if_neg (by simp only; omega), if_pos rfl, Bool.and_eq_true] at h1
   have hx := Zx h1.1
   simp only at hx
   obtain ⟨x, rfl⟩ : ∃ x : Nat, xn = (x : Int) := ⟨xn.toNat, by omega⟩
   exact GN b o0 n cap xs qq hn x (by omega) w0 w1 w2 w3 xa xb m M
 | .two k a c, h => by
  rcases h.1 with rfl | rfl
  ·exact qbQ b o0 n cap xs qq hn a c (vK b o0 n cap xs qq hn a h.2.1) (vK b o0 n cap xs qq hn c h.2.2)
  ·exact qbR b o0 n cap xs qq hn a c (vK b o0 n cap xs qq hn a h.2.1) (vK b o0 n cap xs qq hn c h.2.2)
 | .times m M t, h => GG b o0 n cap xs qq hn m M t (vK b o0 n cap xs qq hn t h.2)
 | .group xn t, h => by
  have hx := Zx h.1
  have ih := vK b o0 n cap xs qq hn t h.2
  obtain ⟨x, rfl⟩ : ∃ x : Nat, xn = (x : Int) := ⟨xn.toNat, by omega⟩
  exact GH b o0 n cap xs qq hn x (by omega) t ih
end Go.Proofs.YtjgegohidhdbpaaGreatDoor
