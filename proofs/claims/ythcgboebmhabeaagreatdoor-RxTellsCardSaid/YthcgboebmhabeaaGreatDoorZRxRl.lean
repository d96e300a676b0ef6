/- The reference's look, May, Text. -/
import Derived.Test.YthcgboebmhabeaaGreatDoorZRxRa
import Derived.Test.YthcgboebmhabeaaGreatDoorZRxRd
import Derived.Test.YthcgboebmhabeaaGreatDoorZRxRi
import Derived.Test.YthcgboebmhabeaaGreatDoorZRxFp
import Derived.Test.YthcgboebmhabeaaGreatDoorZRxBk
namespace Go.Proofs.YthcgboebmhabeaaGreatDoor
open Go.RowKit
set_option linter.unusedVariables false
set_option linter.unusedSimpArgs false

/-- A tree's nodes keep to where they stand, just if the tree does. -/
theorem tOk_nodes {xs : List Nd} {one : Bool} (h1 : one = true ↔ xs.length = 1) : ∀ (t : T) (o : Nat), t.Ok → T.At (fun i => xs[i]?) t o → (tOk one t ↔ ∀ i, o ≤ i → i < o + t.size → ∀ x, xs[i]? = some x → pOk xs x)
  | .leaf x, o, ok, ha => by
    have hx : xs[o]? = some x := ha
    have hk := ok.2
    simp only [tOk, T.size]
    constructor
    · intro h i hi hi2 y hy
      obtain rfl : i = o := by omega
      rw [hx] at hy
      cases hy
      unfold pOk
      by_cases h0 : x.kind = 0
      · rw [if_pos h0]; exact h1.1 (h h0)
      · rw [if_neg h0, if_neg (by omega), if_neg (by omega), if_neg (by omega)]
        trivial
    · intro h h0
      have := h o (by omega) (by omega) x hx
      unfold pOk at this
      rw [if_pos h0] at this
      exact h1.2 this
  | .two k a b, o, ok, ⟨ha, hb, hr⟩ => by
    have iha := tOk_nodes h1 a o ok.2.1 ha
    have ihb := tOk_nodes h1 b (o + a.size) ok.2.2 hb
    have ra := ha.root
    have rb := hb.root
    have sa := a.size_pos
    have sb := b.size_pos
    have ka : kindAt xs ((o : Int) + a.size - 1) = rk a := by
      unfold kindAt
      rw [show ((o : Int) + a.size - 1).toNat = o + a.size - 1 by omega]
      have : xs[o + a.size - 1]? = some (a.root o) := ra
      rw [this]
      exact rk_root a o
    have kb : kindAt xs ((o : Int) + a.size + b.size - 1) = rk b := by
      unfold kindAt
      rw [show ((o : Int) + a.size + b.size - 1).toNat = o + a.size + b.size - 1 by omega]
      have : xs[o + a.size + b.size - 1]? = some (b.root (o + a.size)) := rb
      rw [this]
      exact rk_root b _
    have hroot : pOk xs (T.root (.two k a b) o) ↔ okTwo k a b = true := by
      unfold pOk okTwo
      simp only [T.root, ka, kb]
      rcases ok.1 with rfl | rfl
      · simp
        constructor
        · rintro ⟨q1, q2, q3⟩; exact ⟨⟨q1, q2⟩, q3⟩
        · rintro ⟨⟨q1, q2⟩, q3⟩; exact ⟨q1, q2, q3⟩
      · simp
    simp only [tOk, T.size]
    rw [iha, ihb, ← hroot]
    constructor
    · rintro ⟨p1, p2, p3⟩ i hi hi2 x hx
      by_cases c1 : i < o + a.size
      · exact p2 i hi c1 x hx
      by_cases c2 : i < o + a.size + b.size
      · exact p3 i (by omega) c2 x hx
      obtain rfl : i = o + a.size + b.size := by omega
      have : xs[o + a.size + b.size]? = some (T.root (.two k a b) o) := hr
      rw [this] at hx
      cases hx
      exact p1
    · intro h
      refine ⟨h (o + a.size + b.size) (by omega) (by omega) _ hr, fun i hi hi2 => h i hi (by omega), fun i hi hi2 => h i (by omega) (by omega)⟩
  | .times m M t, o, ok, ⟨ha, hr⟩ => by
    have ih := tOk_nodes h1 t o ok.2 ha
    have ra := ha.root
    have sa := t.size_pos
    have ka : kindAt xs ((o : Int) + t.size - 1) = rk t := by
      unfold kindAt
      rw [show ((o : Int) + t.size - 1).toNat = o + t.size - 1 by omega]
      have : xs[o + t.size - 1]? = some (t.root o) := ra
      rw [this]
      exact rk_root t o
    have hroot : pOk xs (T.root (.times m M t) o) ↔ okTimes t = true := by
      unfold pOk okTimes
      simp only [T.root, ka]
      simp
      constructor
      · rintro (q | q | q)
        · exact .inl (.inl q)
        · exact .inl (.inr q)
        · exact .inr q
      · rintro ((q | q) | q)
        · exact .inl q
        · exact .inr (.inl q)
        · exact .inr (.inr q)
    simp only [tOk, T.size]
    rw [ih, ← hroot]
    constructor
    · rintro ⟨p1, p2⟩ i hi hi2 x hx
      by_cases c1 : i < o + t.size
      · exact p2 i hi c1 x hx
      obtain rfl : i = o + t.size := by omega
      have : xs[o + t.size]? = some (T.root (.times m M t) o) := hr
      rw [this] at hx
      cases hx
      exact p1
    · intro h
      exact ⟨h (o + t.size) (by omega) (by omega) _ hr, fun i hi hi2 => h i hi (by omega)⟩
  | .group n t, o, ok, ⟨ha, hr⟩ => by
    have ih := tOk_nodes h1 t o ok.2 ha
    have sa := t.size_pos
    have hroot : pOk xs (T.root (.group n t) o) := by
      unfold pOk
      simp only [T.root]
      simp
    simp only [tOk, T.size]
    rw [ih]
    constructor
    · intro p2 i hi hi2 x hx
      by_cases c1 : i < o + t.size
      · exact p2 i hi c1 x hx
      obtain rfl : i = o + t.size := by omega
      have : xs[o + t.size]? = some (T.root (.group n t) o) := hr
      rw [this] at hx
      cases hx
      exact hroot
    · intro h i hi hi2
      exact h i hi (by omega)

def wk0 : Wk := ⟨false, 0, fun _ => false, false⟩
def wk1 : Wk := ⟨true, 0, fun _ => false, false⟩
/-- A whole tree is a pattern, just if what through finds is good. -/
theorem thr_pat {xs : List Nd} {t : T} (hok : t.Ok) (ha : T.At (fun i => xs[i]?) t 0) (hs : t.size = xs.length) (h120 : xs.length ≤ 120) (hnd : ∀ (i : Nat) (x : Nd), xs[i]? = some x → isNd x = true) : (thr (decide (xs.length = 1)) t wk1).g = true ↔ IsPat xs t := by
  rw [(thr_good _ t wk1).1, tOk_nodes (xs := xs) (by simp) t 0 hok ha]
  constructor
  · rintro ⟨_, h2, h3⟩
    refine ⟨hok, ha, hs, h120, hnd, fun i x hx => ?_, h3⟩
    have hi : i < xs.length := (List.getElem?_eq_some_iff.1 hx).1
    exact h2 i (by omega) (by omega) x hx
  · rintro ⟨_, _, _, _, _, h6, h7⟩
    exact ⟨rfl, fun i _ _ x hx => h6 i x hx, h7⟩

end Go.Proofs.YthcgboebmhabeaaGreatDoor

namespace Go.Proofs.YthcgboebmhabeaaGreatDoor
open Go.RowKit
set_option linter.unusedVariables false
set_option linter.unusedSimpArgs false

theorem WB.storeAt {w : World} {b : Nat} {v : Array Value} (h : WB w b v) (hs : v.size = 13) (C : Array Value) (hc : C.size = 13) (ha : C.all (·.oneCell') = true) : (Instr.storeAt 49 (.pointer (some ⟨b, 0, none⟩)) (.agg C)).run Tryz.prog w = .ok () (w.setRow b C) := by
  simp only [Instr.storeAt, Instr.sureAddr, Sem.run_bind, Sem.run_pure, Result.andThen]
  exact run_storeVar_row (P := Tryz.prog) w b 49 49 v C h.heap (by rw [sizeWk, hc]) (by rw [hs, hc]) ha
theorem wpList_store_wb {ops : Array Oper} {rest : List Oper} {o : Oper} {a : Act} {Q : Exit → Act → World → Prop} {w : World} {b : Nat} {v C : Array Value} (h : WB w b v) (hs : v.size = 13) (hc : C.size = 13) (hall : C.all (·.oneCell') = true) (hgd : o.guard = none) {x y : Operand}
    (ho : o.op = .store 49 x y) (hx : a.eval x = .pointer (some ⟨b, 0, none⟩)) (hy : a.eval y = .agg C) (hK : wpList Tryz.prog ops Q rest (a.put o.dst undef) (w.setRow b C)) : wpList Tryz.prog ops Q (o :: rest) a w := by
  refine wpList_plain hgd fun K hK' => ?_
  unfold Oper.wp execOp
  simp only [ho, hx, hy, h.storeAt hs C hc hall, Sem.run_bind, Sem.run_pure, Result.andThen_ok]
  exact hK' _ _ hK

/-- What look answers. -/
structure Looks (xs : List Nd) (W : Wk) : Prop where
  g : W.g = true ↔ ∃ t, IsPat xs t
  k : ∀ t, IsPat xs t → W.k = t.groups
  r : ∀ t, IsPat xs t → (W.r = true ↔ 0 < t.refs)
theorem looks_none {xs : List Nd} (h : ¬ ∃ t, IsPat xs t) : Looks xs wk0 := ⟨⟨fun e => (by simp [wk0] at e), fun e => absurd e h⟩, fun t ht => absurd ⟨t, ht⟩ h, fun t ht => absurd ⟨t, ht⟩ h⟩
theorem pat_one {xs : List Nd} {t t' : T} (h : IsPat xs t) (h' : IsPat xs t') : t = t' := (T.uniq _ t t' 0 0 h.1 h'.1 h.2.1 h'.2.1 (by rw [h.2.2.1, h'.2.2.1])).1

set_option maxRecDepth 100000 in
set_option maxHeartbeats 4000000 in
theorem look_out (p : Option Addr) (n cap : Nat) (xs : List Nd) (hn : n < 1 ∨ 120 < n) (w : World) (h : Nodes w p n xs) :
    Calls Tryz.prog 23 #[.slice p n cap] w fun e w' => (∃ W : Wk, e = .returned (.agg W.cells) ∧ Looks xs W) ∧ Below w.heap.size w w' := by
  have hp : ¬ ∃ t, IsPat xs t := fun ⟨t, ht⟩ => by
    have h1 := ht.2.2.1; have h2 := t.size_pos; have h3 := ht.2.2.2.1; have := h.len
    omega
  have hl := looks_none hp
  have hs := h.small
  have hb : Below w.heap.size w (w.alloc (.cells #[.bool false, .int .i64 0, .bool false, .bool false, .bool false, .bool false, .bool false, .bool false, .bool false, .bool false, .bool false, .bool false, .bool false] 49)) := (Below.refl _ w).alloc (Nat.le_refl _) _
  have hwb : WB (w.alloc (.cells #[.bool false, .int .i64 0, .bool false, .bool false, .bool false, .bool false, .bool false, .bool false, .bool false, .bool false, .bool false, .bool false, .bool false] 49)) w.heap.size #[.bool false, .int .i64 0, .bool false, .bool false, .bool false, .bool false, .bool false, .bool false, .bool false, .bool false, .bool false, .bool false, .bool false] := ⟨heap_new w _⟩
  have ql := hwb.load rfl
  clear h hp hwb
  rcases hn with hn | hn
  · have h1 : ((n : Int) < 1) = True := by simp; omega
    go_enter Tryz.func23, Tryz.ntmps23
    go_wp2
    refine bodyPost_ret (v := .agg #[.bool false, .int .i64 0, .bool false, .bool false, .bool false, .bool false, .bool false, .bool false, .bool false, .bool false, .bool false, .bool false, .bool false]) (by simp [results, Tryz.results23, asAddr, Result.andThen, Act.put, ql]) rfl ⟨⟨wk0, rfl, hl⟩, hb⟩
  · have h1 : ((n : Int) < 1) = False := by simp; omega
    have h2 : ((120 : Int) < n) = True := by simp; omega
    go_enter Tryz.func23, Tryz.ntmps23
    go_wp2
    refine bodyPost_ret (v := .agg #[.bool false, .int .i64 0, .bool false, .bool false, .bool false, .bool false, .bool false, .bool false, .bool false, .bool false, .bool false, .bool false, .bool false]) (by simp [results, Tryz.results23, asAddr, Result.andThen, Act.put, ql]) rfl ⟨⟨wk0, rfl, hl⟩, hb⟩

set_option maxRecDepth 100000 in
set_option maxHeartbeats 8000000 in
theorem look_in (b o n cap : Nat) (xs : List Nd) (hlen : xs.length = n) (h1 : 1 ≤ n) (hn : n ≤ 120) (hfit : ∀ (i : Nat) (x : Nd), xs[i]? = some x → x.Fits) (w : World) (hx : NodesAt w b o xs) :
    Calls Tryz.prog 23 #[.slice (some ⟨b, o, none⟩) n cap] w fun e w' => (∃ W : Wk, e = .returned (.agg W.cells) ∧ Looks xs W) ∧ Below w.heap.size w w' := by
  have lb := hx.lt
  have g1 : ((n : Int) < 1) = False := by simp; omega
  have g2 : ((120 : Int) < n) = False := by simp; omega
  have hw0 : WB (w.alloc (.cells wk0.cells 49)) w.heap.size wk0.cells := ⟨heap_new w _⟩
  have hb0 : Below w.heap.size w (w.alloc (.cells wk0.cells 49)) := (Below.refl _ w).alloc (Nat.le_refl _) _
  have HF := Lib.hid hfit
  have H0 := Lib.hid hw0
  have B0 := Lib.hid hb0
  clear hfit hw0 hb0
  go_enter Tryz.func23, Tryz.ntmps23
  go_wp2
  go_loopw [3] (fun i wr => ∃ k : Nat, k ≤ n ∧ i = .int .i64 k ∧ (∀ j x, j < k → xs[j]? = some x → isNd x = true) ∧ WB wr w.heap.size wk0.cells ∧ Below w.heap.size w wr) (fun i _ => n - (RowKit.intOf i).toNat)
  case atStart => exact ⟨0, by omega, rfl, fun j x hj => absurd hj (by omega), H0.out, B0.out⟩
  case round =>
    clear H0 B0
    obtain ⟨k, hk, rfl, hall, hwb, hB⟩ := hrel
    by_cases hlt : k < n
    · obtain ⟨x, hxk⟩ : ∃ x, xs[k]? = some x := ⟨xs[k]'(by omega), List.getElem?_eq_getElem (by omega)⟩
      have hw := hx.below hB hx.lt
      have lB := hB.size
      have d := hw.cell k x hxk
      have FC := Lib.hid (fields_c x (HF.out k x hxk) wr)
      have hklen : (k : Int) < n := by omega
      obtain ⟨q, hq⟩ : ∃ q, q = isNd x := ⟨_, rfl⟩
      rw [← hq] at FC
      have hallk : q = true → ∀ j x, j < k + 1 → xs[j]? = some x → isNd x = true := fun hqt j y hj hy => by
        by_cases e : j = k
        · subst e; rw [hxk] at hy; cases hy; rw [← hq, hqt]
        · exact hall j y (by omega) hy
      have hnone : q = false → ¬ ∃ t, IsPat xs t := fun hqf ⟨t, ht⟩ => by
        have := ht.2.2.2.2.1 k x hxk
        rw [← hq, hqf] at this
        cases this
      obtain ⟨kd, w0, w1, w2, w3, xa, xb, m, M, xn⟩ := x
      have d0 : wr.cell? ⟨b, o + k * 10, none⟩ = some (.int .i64 kd) := d 0 _ rfl
      have d1 : wr.cell? ⟨b, o + k * 10 + 1, none⟩ = some (.int .u64 w0) := d 1 _ rfl
      have d2 : wr.cell? ⟨b, o + k * 10 + 2, none⟩ = some (.int .u64 w1) := d 2 _ rfl
      have d3 : wr.cell? ⟨b, o + k * 10 + 3, none⟩ = some (.int .u64 w2) := d 3 _ rfl
      have d4 : wr.cell? ⟨b, o + k * 10 + 4, none⟩ = some (.int .u64 w3) := d 4 _ rfl
      have d5 : wr.cell? ⟨b, o + k * 10 + 5, none⟩ = some (.int .i64 xa) := d 5 _ rfl
      have d6 : wr.cell? ⟨b, o + k * 10 + 6, none⟩ = some (.int .i64 xb) := d 6 _ rfl
      have d7 : wr.cell? ⟨b, o + k * 10 + 7, none⟩ = some (.int .i64 m) := d 7 _ rfl
      have d8 : wr.cell? ⟨b, o + k * 10 + 8, none⟩ = some (.int .i64 M) := d 8 _ rfl
      have d9 : wr.cell? ⟨b, o + k * 10 + 9, none⟩ = some (.int .i64 xn) := d 9 _ rfl
      have HA := Lib.hid hallk
      have HN := Lib.hid hnone
      clear d hw hxk hq hall hallk hnone hx
      cases q
      · go_wp2_with fail
        refine FC.out.mono ?_
        rintro e W1 ⟨rfl, hB1⟩
        have hwb1 := hwb.below hB1 hwb.lt
        have hB2 := hB.trans (hB1.mono hB.size)
        have hput := hwb1.put wk0.cells
        have hbp := Below.setRow hB2 (Nat.le_refl _) wk0.cells
        go_wp2_with (refine wpList_store_wb (C := wk0.cells) hwb1 rfl rfl (Wk.cells_all _) rfl rfl rfl rfl ?_)
        have ql := hput.load rfl
        refine bodyPost_ret (v := .agg wk0.cells) (by simp [results, Tryz.results23, asAddr, Result.andThen, Act.put, ql]) rfl ⟨⟨wk0, rfl, looks_none (by first | exact HN.out rfl | exact HN.out trivial)⟩, hbp⟩
      · go_wp2_with fail
        refine FC.out.mono ?_
        rintro e W1 ⟨rfl, hB1⟩
        have hwb1 := hwb.below hB1 hwb.lt
        have hB2 := hB.trans (hB1.mono hB.size)
        go_wp2
        go_roundw
        case rel => exact ⟨k + 1, by omega, by simp, (by first | exact HA.out rfl | exact HA.out trivial), hwb1, hB2⟩
        case measure => (simp [RowKit.intOf]) <;> omega
    · obtain rfl : k = n := by omega
      have hnd : ∀ (i : Nat) (x : Nd), xs[i]? = some x → isNd x = true := fun i x hi => hall i x (by have := (List.getElem?_eq_some_iff.1 hi).1; omega) hi
      obtain ⟨r, hr0, hr1, hr2, hr3⟩ := first_c b o k cap xs hlen (by omega) hnd (k - 1) (by omega)
      have ek : ((k - 1 : Nat) : Int) = (k : Int) - 1 := by omega
      rw [ek] at hr3
      have FI := Lib.hid (hr3 wr (hx.below hB hx.lt))
      have hlt1 : ((k : Int) < k) = False := by simp
      have hwk : IntKind.i64.wrap ((k : Int) - 1) = (k : Int) - 1 := by simp [IntKind.wrap, IntKind.signed, IntKind.bits]; omega
      by_cases hz : r = 0
      · have hrz : (r == 0) = true := by simp [hz]
        obtain ⟨t, hok, hat, hsz⟩ := (hr2 0).1 (by simpa using hz)
        have hts : t.size = xs.length := by omega
        have TH := fun w' hx' => thru_all b o k cap xs hlen hn t hok 0 (k - 1) wk1 w' hat (by omega) (by omega) (by show 0 + t.size ≤ 1000; omega) hx'
        have hL : Looks xs (thr (decide (k = 1)) t wk1) := by
          have hp := thr_pat (t := t) hok hat hts (by omega) hnd
          rw [hlen] at hp
          refine ⟨⟨fun h => ⟨t, hp.1 h⟩, fun ⟨t', ht'⟩ => ?_⟩, fun t' ht' => ?_, fun t' ht' => ?_⟩
          · have e := (T.uniq _ t t' 0 0 hok ht'.1 hat ht'.2.1 (by rw [hts, ht'.2.2.1])).1
            subst e
            exact hp.2 ht'
          · have e := (T.uniq _ t t' 0 0 hok ht'.1 hat ht'.2.1 (by rw [hts, ht'.2.2.1])).1
            subst e
            rw [thr_k]; show 0 + _ = _; omega
          · have e := (T.uniq _ t t' 0 0 hok ht'.1 hat ht'.2.1 (by rw [hts, ht'.2.2.1])).1
            subst e
            rw [thr_r]
            simp [wk1]
        rw [ek] at TH
        generalize thr (decide (k = 1)) t wk1 = U at *
        have TH1 := Lib.hid TH
        have hus : U.cells.size = 13 := rfl
        have hua := U.cells_all
        have HL := Lib.hid hL
        clear TH hL hr2 hr3 hnd hall hok hat hsz hts ek
        simp only [Wk.cells, wk1] at TH1
        have TH2 : Hid (∀ (w' : World), NodesAt w' b o xs → Calls Tryz.prog 44 #[.slice (some ⟨b, o, none⟩) k cap, .int .i64 ((k : Int) - 1), .agg #[.bool true, .int .i64 0, .bool false, .bool false, .bool false, .bool false, .bool false, .bool false, .bool false, .bool false, .bool false, .bool false, .bool false]] w' fun e w'' => e = .returned (.agg U.cells) ∧ Below w'.heap.size w' w'') := TH1
        clear TH1
        go_wp2_with fail
        refine FI.out.mono ?_
        rintro e W1 ⟨rfl, hB1⟩
        have hB2 := hB.trans (hB1.mono hB.size)
        have hwb1 := hwb.below hB1 hwb.lt
        clear FI hB1
        go_wp2_with fail
        refine (TH2.out W1 (hx.below hB2 lb)).mono ?_
        rintro e W2 ⟨rfl, hB3⟩
        have hB4 := hB2.trans (hB3.mono hB2.size)
        have hwb2 := hwb1.below hB3 hwb1.lt
        have hput := hwb2.put U.cells
        have hbp := Below.setRow hB4 (Nat.le_refl _) U.cells
        go_wp2_with (refine wpList_store_wb (C := U.cells) hwb2 rfl rfl U.cells_all rfl rfl rfl rfl ?_)
        have ql := hput.load rfl
        refine bodyPost_ret (v := .agg U.cells) (by simp [results, Tryz.results23, asAddr, Result.andThen, Act.put, ql]) rfl ⟨⟨U, rfl, HL.out⟩, hbp⟩
      · have hrz : (r == 0) = false := by rw [beq_eq_false_iff_ne]; exact hz
        have hp : ¬ ∃ t, IsPat xs t := fun ⟨t, ht⟩ => hz (by
          have := (hr2 0).2 ⟨t, ht.1, ht.2.1, by have := ht.2.2.1; omega⟩
          simpa using this)
        have HL := Lib.hid (looks_none hp)
        clear hr2 hr3 hnd hall hp ek
        go_wp2_with fail
        refine FI.out.mono ?_
        rintro e W1 ⟨rfl, hB1⟩
        have hB2 := hB.trans (hB1.mono hB.size)
        have hwb1 := hwb.below hB1 hwb.lt
        have hput := hwb1.put wk0.cells
        have hbp := Below.setRow hB2 (Nat.le_refl _) wk0.cells
        go_wp2_with (refine wpList_store_wb (C := wk0.cells) hwb1 rfl rfl (Wk.cells_all _) rfl rfl rfl rfl ?_)
        have ql := hput.load rfl
        refine bodyPost_ret (v := .agg wk0.cells) (by simp [results, Tryz.results23, asAddr, Result.andThen, Act.put, ql]) rfl ⟨⟨wk0, rfl, HL.out⟩, hbp⟩

theorem look_c (p : Option Addr) (n cap : Nat) (xs : List Nd) (w : World) (h : Nodes w p n xs) :
    Calls Tryz.prog 23 #[.slice p n cap] w fun e w' => (∃ W : Wk, e = .returned (.agg W.cells) ∧ Looks xs W) ∧ Below w.heap.size w w' := by
  by_cases hn : n < 1 ∨ 120 < n
  · exact look_out p n cap xs hn w h
  · obtain ⟨b, o, rfl⟩ := h.ptr (by omega)
    exact look_in b o n cap xs h.len (by omega) (by omega) h.fits w (h.at' (by omega) b o rfl)

set_option maxRecDepth 100000 in
set_option maxHeartbeats 4000000 in
theorem rmay_c (p : Option Addr) (n cap : Nat) (xs : List Nd) (r : Bool) (hr : r = true ↔ ∃ t, IsPat xs t) (w : World) (h : Nodes w p n xs) :
    Calls Tryz.prog 7 #[.slice p n cap] w fun e w' => e = .returned (.bool r) ∧ Below w.heap.size w w' := by
  have HL := Lib.hid (look_c p n cap xs w h)
  have HR := Lib.hid hr
  clear hr h
  go_enter Tryz.func7, Tryz.ntmps7
  go_wp2_with fail
  refine HL.out.mono ?_
  rintro e w1 ⟨⟨W, rfl, hW⟩, hB⟩
  have hg : W.g = r := by
    rw [Bool.eq_iff_iff, hW.g, HR.out]
  obtain ⟨g, k, en, r'⟩ := W
  obtain rfl : g = r := hg
  simp only [Wk.cells]
  clear hW HL HR
  have hfd : ∀ w : World, (Instr.field 49 (.agg #[.bool g, .int .i64 k, .bool (en 0), .bool (en 1), .bool (en 2), .bool (en 3), .bool (en 4), .bool (en 5), .bool (en 6), .bool (en 7), .bool (en 8), .bool (en 9), .bool r']) 0).run Tryz.prog w = .ok (.bool g) w := fun _ => by kernel_rfl
  go_wp2
  go_ret
  exact ⟨rfl, hB⟩

set_option maxRecDepth 100000 in
set_option maxHeartbeats 4000000 in
theorem rtext_in (b o n cap : Nat) (xs : List Nd) (hlen : xs.length = n) (t : T) (hp : IsPat xs t) (hfit : ∀ (i : Nat) (x : Nd), xs[i]? = some x → x.Fits) (w : World) (hx : NodesAt w b o xs) :
    Calls Tryz.prog 13 #[.slice (some ⟨b, o, none⟩) n cap] w fun e w' => e = .returned (.string ⟨(text t).toArray⟩) ∧ Below w.heap.size w w' := by
  have h120 : n ≤ 120 := by have := hp.2.2.2.1; omega
  have h1 : 1 ≤ n := by have := t.size_pos; have := hp.2.2.1; omega
  have HM := Lib.hid (rmay_c (some ⟨b, o, none⟩) n cap xs true ⟨fun _ => ⟨t, hp⟩, fun _ => rfl⟩ w (nodes_of_at hlen (by omega) hfit hx))
  have TT := fun w' hx' => rtells_all b o n cap xs h120 t hp.1 (tfits_at hfit t 0 hp.2.1) 0 (n - 1) w' hp.2.1 (by have := hp.2.2.1; omega) (by omega) hx'
  have ek : ((n - 1 : Nat) : Int) = (n : Int) - 1 := by omega
  rw [ek] at TT
  have T1 := Lib.hid TT
  have hwk : IntKind.i64.wrap ((n : Int) - 1) = (n : Int) - 1 := by simp [IntKind.wrap, IntKind.signed, IntKind.bits]; omega
  clear TT hp hfit ek
  generalize text t = tt at *
  have lb := hx.lt
  go_enter Tryz.func13, Tryz.ntmps13
  go_wp2_with fail
  refine HM.out.mono ?_
  rintro e w1 ⟨rfl, hB1⟩
  go_wp2_with fail
  refine (T1.out w1 (hx.below hB1 lb)).mono ?_
  rintro e w2 ⟨rfl, hB2⟩
  go_wp2
  go_ret
  exact ⟨rfl, hB1.trans (hB2.mono hB1.size)⟩

set_option maxRecDepth 100000 in
set_option maxHeartbeats 4000000 in
theorem rtext_out (p : Option Addr) (n cap : Nat) (xs : List Nd) (hp : ¬ ∃ t, IsPat xs t) (w : World) (h : Nodes w p n xs) :
    Calls Tryz.prog 13 #[.slice p n cap] w fun e w' => e = .returned (.string ⟨#[]⟩) ∧ Below w.heap.size w w' := by
  have HM := Lib.hid (rmay_c p n cap xs false ⟨fun h => absurd h (by decide), fun h => absurd h hp⟩ w h)
  clear hp h
  go_enter Tryz.func13, Tryz.ntmps13
  go_wp2_with fail
  refine HM.out.mono ?_
  rintro e w1 ⟨rfl, hB1⟩
  go_wp2
  go_ret
  exact ⟨rfl, hB1⟩

end Go.Proofs.YthcgboebmhabeaaGreatDoor
