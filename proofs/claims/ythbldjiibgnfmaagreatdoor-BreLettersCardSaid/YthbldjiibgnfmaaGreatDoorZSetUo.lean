/- The reference's look, May, Text, of sets of bytes alone: the walks. -/
import Derived.Test.YthbldjiibgnfmaaGreatDoorZRxBk
import Derived.Test.YthbldjiibgnfmaaGreatDoorZSetJ
namespace Go.Proofs.YthbldjiibgnfmaaGreatDoor
open Go.RowKit
set_option linter.unusedVariables false
set_option linter.unusedSimpArgs false

theorem WB.storeAtq {w : World} {b : Nat} {v : Array Value} (h : WB w b v) (hs : v.size = 13) (C : Array Value) (hc : C.size = 13) (ha : C.all (·.oneCell') = true) : (Instr.storeAt 97 (.pointer (some ⟨b, 0, none⟩)) (.agg C)).run Tryz.prog w = .ok () (w.setRow b C) := by
  simp only [Instr.storeAt, Instr.sureAddr, Sem.run_bind, Sem.run_pure, Result.andThen]
  exact run_storeVar_row (P := Tryz.prog) w b 97 97 v C h.heap (by rw [sizeWk, hc]) (by rw [hs, hc]) ha
theorem wpList_store_wbq {ops : Array Oper} {rest : List Oper} {o : Oper} {a : Act} {Q : Exit → Act → World → Prop} {w : World} {b : Nat} {v C : Array Value} (h : WB w b v) (hs : v.size = 13) (hc : C.size = 13) (hall : C.all (·.oneCell') = true) (hgd : o.guard = none) {x y : Operand}
    (ho : o.op = .store 97 x y) (hx : a.eval x = .pointer (some ⟨b, 0, none⟩)) (hy : a.eval y = .agg C) (hK : wpList Tryz.prog ops Q rest (a.put o.dst undef) (w.setRow b C)) : wpList Tryz.prog ops Q (o :: rest) a w := by
  refine wpList_plain hgd fun K hK' => ?_
  unfold Oper.wp execOp
  simp only [ho, hx, hy, h.storeAtq hs C hc hall, Sem.run_bind, Sem.run_pure, Result.andThen_ok]
  exact hK' _ _ hK

/-- A pattern all of whose nodes are sets of bytes is one of them. -/
theorem leaf_only {xs : List Nd} {t : T} (hok : t.Ok) (hat : T.At (fun i => xs[i]?) t 0) (h1 : ∀ (i : Nat) (x : Nd), xs[i]? = some x → x.kind = 1) : ∃ w0 w1 w2 w3 xa xb m M xn, t = .leaf ⟨1, w0, w1, w2, w3, xa, xb, m, M, xn⟩ := by
  have hr := h1 _ _ hat.root
  have hk := hok.kind 0
  cases t with
  | leaf x =>
    obtain ⟨kd, w0, w1, w2, w3, xa, xb, m, M, xn⟩ := x
    have : kd = 1 := hr
    subst this
    exact ⟨w0, w1, w2, w3, xa, xb, m, M, xn, rfl⟩
  | two k a b => simp only at hk; omega
  | times m M t => simp only at hk; omega
  | group n t => simp only at hk; omega
/-- What look answers. -/
structure Looksq (xs : List Nd) (W : Wk) : Prop where
  g : W.g = true ↔ ∃ t, IsPat xs t
  k : ∀ t, IsPat xs t → W.k = t.groups
  r : ∀ t, IsPat xs t → (W.r = true ↔ 0 < t.refs)
theorem looks_noneq {xs : List Nd} (h : ¬ ∃ t, IsPat xs t) : Looksq xs wk0 := ⟨⟨fun e => (by simp [wk0] at e), fun e => absurd e h⟩, fun t ht => absurd ⟨t, ht⟩ h, fun t ht => absurd ⟨t, ht⟩ h⟩
set_option maxRecDepth 100000 in
set_option maxHeartbeats 4000000 in
theorem look_outq (p : Option Addr) (n cap : Nat) (xs : List Nd) (hn : n < 1 ∨ 120 < n) (w : World) (h : Nodes w p n xs) :
    Calls Tryz.prog 61 #[.slice p n cap] w fun e w' => (∃ W : Wk, e = .returned (.agg W.cells) ∧ Looksq xs W) ∧ Below w.heap.size w w' := by
  have hp : ¬ ∃ t, IsPat xs t := fun ⟨t, ht⟩ => by
    have h1 := ht.2.2.1; have h2 := t.size_pos; have h3 := ht.2.2.2.1; have := h.len
    omega
  have hl := looks_noneq hp
  have hs := h.small
  have hb : Below w.heap.size w (w.alloc (.cells #[.bool false, .int .i64 0, .bool false, .bool false, .bool false, .bool false, .bool false, .bool false, .bool false, .bool false, .bool false, .bool false, .bool false] 97)) := (Below.refl _ w).alloc (Nat.le_refl _) _
  have hwb : WB (w.alloc (.cells #[.bool false, .int .i64 0, .bool false, .bool false, .bool false, .bool false, .bool false, .bool false, .bool false, .bool false, .bool false, .bool false, .bool false] 97)) w.heap.size #[.bool false, .int .i64 0, .bool false, .bool false, .bool false, .bool false, .bool false, .bool false, .bool false, .bool false, .bool false, .bool false, .bool false] := ⟨heap_new w _⟩
  have ql := hwb.load rfl
  clear h hp hwb
  rcases hn with hn | hn
  · have h1 : ((n : Int) < 1) = True := by simp; omega
    go_enter Tryz.func61, Tryz.ntmps61
    go_wp2
    refine bodyPost_ret (v := .agg #[.bool false, .int .i64 0, .bool false, .bool false, .bool false, .bool false, .bool false, .bool false, .bool false, .bool false, .bool false, .bool false, .bool false]) (by simp [results, Tryz.results61, asAddr, Result.andThen, Act.put, ql]) rfl ⟨⟨wk0, rfl, hl⟩, hb⟩
  · have h1 : ((n : Int) < 1) = False := by simp; omega
    have h2 : ((120 : Int) < n) = True := by simp; omega
    go_enter Tryz.func61, Tryz.ntmps61
    go_wp2
    refine bodyPost_ret (v := .agg #[.bool false, .int .i64 0, .bool false, .bool false, .bool false, .bool false, .bool false, .bool false, .bool false, .bool false, .bool false, .bool false, .bool false]) (by simp [results, Tryz.results61, asAddr, Result.andThen, Act.put, ql]) rfl ⟨⟨wk0, rfl, hl⟩, hb⟩

set_option maxRecDepth 100000 in
set_option maxHeartbeats 8000000 in
theorem look_inq (b o n cap : Nat) (xs : List Nd) (hlen : xs.length = n) (h1 : 1 ≤ n) (hn : n ≤ 120) (hfit : ∀ (i : Nat) (x : Nd), xs[i]? = some x → x.Fits) (hk1 : ∀ (i : Nat) (x : Nd), xs[i]? = some x → x.kind = 1) (w : World) (hx : NodesAt w b o xs) :
    Calls Tryz.prog 61 #[.slice (some ⟨b, o, none⟩) n cap] w fun e w' => (∃ W : Wk, e = .returned (.agg W.cells) ∧ Looksq xs W) ∧ Below w.heap.size w w' := by
  have lb := hx.lt
  have g1 : ((n : Int) < 1) = False := by simp; omega
  have g2 : ((120 : Int) < n) = False := by simp; omega
  have hw0 : WB (w.alloc (.cells wk0.cells 97)) w.heap.size wk0.cells := ⟨heap_new w _⟩
  have hb0 : Below w.heap.size w (w.alloc (.cells wk0.cells 97)) := (Below.refl _ w).alloc (Nat.le_refl _) _
  have HF := Lib.hid hfit
  have HK1 := Lib.hid hk1
  have H0 := Lib.hid hw0
  have B0 := Lib.hid hb0
  clear hfit hw0 hb0 hk1
  go_enter Tryz.func61, Tryz.ntmps61
  go_wp2
  go_loopw [3] (fun i wr => ∃ k : Nat, k ≤ n ∧ i = .int .i64 k ∧ (∀ j x, j < k → xs[j]? = some x → isNd x = true) ∧ WB wr w.heap.size wk0.cells ∧ Below w.heap.size w wr) (fun i _ => n - (RowKit.intOf i).toNat)
  case atStart => exact ⟨0, by omega, rfl, fun j x hj => absurd hj (by omega), H0.out, B0.out⟩
  case round =>
    clear H0 B0
    obtain ⟨k, hk, rfl, hall, hwb, hB⟩ := hrel
    by_cases hlt : k < n
    · obtain ⟨x, hxk⟩ : ∃ x, xs[k]? = some x := ⟨xs[k]'(by omega), List.getElem?_eq_getElem (by omega)⟩
      have hw := hx.below hB hx.lt
      have lB := hB.size
      have d := hw.cell k x hxk
      have FC := Lib.hid (fields_c x (HF.out k x hxk) wr)
      have hklen : (k : Int) < n := by omega
      obtain ⟨q, hq⟩ : ∃ q, q = isNd x := ⟨_, rfl⟩
      rw [← hq] at FC
      have hallk : q = true → ∀ j x, j < k + 1 → xs[j]? = some x → isNd x = true := fun hqt j y hj hy => by
        by_cases e : j = k
        · subst e; rw [hxk] at hy; cases hy; rw [← hq, hqt]
        · exact hall j y (by omega) hy
      have hnone : q = false → ¬ ∃ t, IsPat xs t := fun hqf ⟨t, ht⟩ => by
        have := ht.2.2.2.2.1 k x hxk
        rw [← hq, hqf] at this
        cases this
      obtain ⟨kd, w0, w1, w2, w3, xa, xb, m, M, xn⟩ := x
      have d0 : wr.cell? ⟨b, o + k * 10, none⟩ = some (.int .i64 kd) := d 0 _ rfl
      have d1 : wr.cell? ⟨b, o + k * 10 + 1, none⟩ = some (.int .u64 w0) := d 1 _ rfl
      have d2 : wr.cell? ⟨b, o + k * 10 + 2, none⟩ = some (.int .u64 w1) := d 2 _ rfl
      have d3 : wr.cell? ⟨b, o + k * 10 + 3, none⟩ = some (.int .u64 w2) := d 3 _ rfl
      have d4 : wr.cell? ⟨b, o + k * 10 + 4, none⟩ = some (.int .u64 w3) := d 4 _ rfl
      have d5 : wr.cell? ⟨b, o + k * 10 + 5, none⟩ = some (.int .i64 xa) := d 5 _ rfl
      have d6 : wr.cell? ⟨b, o + k * 10 + 6, none⟩ = some (.int .i64 xb) := d 6 _ rfl
      have d7 : wr.cell? ⟨b, o + k * 10 + 7, none⟩ = some (.int .i64 m) := d 7 _ rfl
      have d8 : wr.cell? ⟨b, o + k * 10 + 8, none⟩ = some (.int .i64 M) := d 8 _ rfl
      have d9 : wr.cell? ⟨b, o + k * 10 + 9, none⟩ = some (.int .i64 xn) := d 9 _ rfl
      have HA := Lib.hid hallk
      have HN := Lib.hid hnone
      clear d hw hxk hq hall hallk hnone hx
      cases q
      · go_wp2_with fail
        refine FC.out.mono ?_
        rintro e W1 ⟨rfl, hB1⟩
        have hwb1 := hwb.below hB1 hwb.lt
        have hB2 := hB.trans (hB1.mono hB.size)
        have hput := hwb1.put wk0.cells
        have hbp := Below.setRow hB2 (Nat.le_refl _) wk0.cells
        go_wp2_with (refine wpList_store_wbq (C := wk0.cells) hwb1 rfl rfl (Wk.cells_all _) rfl rfl rfl rfl ?_)
        have ql := hput.load rfl
        refine bodyPost_ret (v := .agg wk0.cells) (by simp [results, Tryz.results61, asAddr, Result.andThen, Act.put, ql]) rfl ⟨⟨wk0, rfl, looks_noneq (by first | exact HN.out rfl | exact HN.out trivial)⟩, hbp⟩
      · go_wp2_with fail
        refine FC.out.mono ?_
        rintro e W1 ⟨rfl, hB1⟩
        have hwb1 := hwb.below hB1 hwb.lt
        have hB2 := hB.trans (hB1.mono hB.size)
        go_wp2
        go_roundw
        case rel => exact ⟨k + 1, by omega, by simp, (by first | exact HA.out rfl | exact HA.out trivial), hwb1, hB2⟩
        case measure => (simp [RowKit.intOf]) <;> omega
    · obtain rfl : k = n := by omega
      have hnd : ∀ (i : Nat) (x : Nd), xs[i]? = some x → isNd x = true := fun i x hi => hall i x (by have := (List.getElem?_eq_some_iff.1 hi).1; omega) hi
      obtain ⟨r, hr0, hr1, hr2, hr3⟩ := first_c b o k cap xs hlen (by omega) hnd (k - 1) (by omega)
      have ek : ((k - 1 : Nat) : Int) = (k : Int) - 1 := by omega
      rw [ek] at hr3
      have FI := Lib.hid (hr3 wr (hx.below hB hx.lt))
      have hlt1 : ((k : Int) < k) = False := by simp
      have hwk : IntKind.i64.wrap ((k : Int) - 1) = (k : Int) - 1 := by simp [IntKind.wrap, IntKind.signed, IntKind.bits]; omega
      by_cases hz : r = 0
      · have hrz : (r == 0) = true := by simp [hz]
        obtain ⟨t, hok, hat, hsz⟩ := (hr2 0).1 (by simpa using hz)
        have hts : t.size = xs.length := by omega
        have THq : Thru b o k cap xs t := by
          obtain ⟨a0, a1, a2, a3, a4, a5, a6, a7, a8, e⟩ := leaf_only hok hat HK1.out
          rw [e]
          exact thru_leaf1 b o k cap xs hlen hn a0 a1 a2 a3 a4 a5 a6 a7 a8
        have TH := fun w' hx' => THq 0 (k - 1) wk1 w' hat (by omega) (by omega) (by show 0 + t.size ≤ 1000; omega) hx'
        have hL : Looksq xs (thr (decide (k = 1)) t wk1) := by
          have hp := thr_pat (t := t) hok hat hts (by omega) hnd
          rw [hlen] at hp
          refine ⟨⟨fun h => ⟨t, hp.1 h⟩, fun ⟨t', ht'⟩ => ?_⟩, fun t' ht' => ?_, fun t' ht' => ?_⟩
          · have e := (T.uniq _ t t' 0 0 hok ht'.1 hat ht'.2.1 (by rw [hts, ht'.2.2.1])).1
            subst e
            exact hp.2 ht'
          · have e := (T.uniq _ t t' 0 0 hok ht'.1 hat ht'.2.1 (by rw [hts, ht'.2.2.1])).1
            subst e
            rw [thr_k]; show 0 + _ = _; omega
          · have e := (T.uniq _ t t' 0 0 hok ht'.1 hat ht'.2.1 (by rw [hts, ht'.2.2.1])).1
            subst e
            rw [thr_r]
            simp [wk1]
        rw [ek] at TH
        generalize thr (decide (k = 1)) t wk1 = U at *
        have TH1 := Lib.hid TH
        have hus : U.cells.size = 13 := rfl
        have hua := U.cells_all
        have HL := Lib.hid hL
        clear TH THq hL hr2 hr3 hnd hall hok hat hsz hts ek
        simp only [Wk.cells, wk1] at TH1
        have TH2 : Hid (∀ (w' : World), NodesAt w' b o xs → Calls Tryz.prog 84 #[.slice (some ⟨b, o, none⟩) k cap, .int .i64 ((k : Int) - 1), .agg #[.bool true, .int .i64 0, .bool false, .bool false, .bool false, .bool false, .bool false, .bool false, .bool false, .bool false, .bool false, .bool false, .bool false]] w' fun e w'' => e = .returned (.agg U.cells) ∧ Below w'.heap.size w' w'') := TH1
        clear TH1
        go_wp2_with fail
        refine FI.out.mono ?_
        rintro e W1 ⟨rfl, hB1⟩
        have hB2 := hB.trans (hB1.mono hB.size)
        have hwb1 := hwb.below hB1 hwb.lt
        clear FI hB1
        go_wp2_with fail
        refine (TH2.out W1 (hx.below hB2 lb)).mono ?_
        rintro e W2 ⟨rfl, hB3⟩
        have hB4 := hB2.trans (hB3.mono hB2.size)
        have hwb2 := hwb1.below hB3 hwb1.lt
        have hput := hwb2.put U.cells
        have hbp := Below.setRow hB4 (Nat.le_refl _) U.cells
        go_wp2_with (refine wpList_store_wbq (C := U.cells) hwb2 rfl rfl U.cells_all rfl rfl rfl rfl ?_)
        have ql := hput.load rfl
        refine bodyPost_ret (v := .agg U.cells) (by simp [results, Tryz.results61, asAddr, Result.andThen, Act.put, ql]) rfl ⟨⟨U, rfl, HL.out⟩, hbp⟩
      · have hrz : (r == 0) = false := by rw [beq_eq_false_iff_ne]; exact hz
        have hp : ¬ ∃ t, IsPat xs t := fun ⟨t, ht⟩ => hz (by
          have := (hr2 0).2 ⟨t, ht.1, ht.2.1, by have := ht.2.2.1; omega⟩
          simpa using this)
        have HL := Lib.hid (looks_noneq hp)
        clear hr2 hr3 hnd hall hp ek
        go_wp2_with fail
        refine FI.out.mono ?_
        rintro e W1 ⟨rfl, hB1⟩
        have hB2 := hB.trans (hB1.mono hB.size)
        have hwb1 := hwb.below hB1 hwb.lt
        have hput := hwb1.put wk0.cells
        have hbp := Below.setRow hB2 (Nat.le_refl _) wk0.cells
        go_wp2_with (refine wpList_store_wbq (C := wk0.cells) hwb1 rfl rfl (Wk.cells_all _) rfl rfl rfl rfl ?_)
        have ql := hput.load rfl
        refine bodyPost_ret (v := .agg wk0.cells) (by simp [results, Tryz.results61, asAddr, Result.andThen, Act.put, ql]) rfl ⟨⟨wk0, rfl, HL.out⟩, hbp⟩

theorem look_cq (p : Option Addr) (n cap : Nat) (xs : List Nd) (hk1 : ∀ (i : Nat) (x : Nd), xs[i]? = some x → x.kind = 1) (w : World) (h : Nodes w p n xs) :
    Calls Tryz.prog 61 #[.slice p n cap] w fun e w' => (∃ W : Wk, e = .returned (.agg W.cells) ∧ Looksq xs W) ∧ Below w.heap.size w w' := by
  by_cases hn : n < 1 ∨ 120 < n
  · exact look_outq p n cap xs hn w h
  · obtain ⟨b, o, rfl⟩ := h.ptr (by omega)
    exact look_inq b o n cap xs h.len (by omega) (by omega) h.fits hk1 w (h.at' (by omega) b o rfl)

set_option maxRecDepth 100000 in
set_option maxHeartbeats 4000000 in
theorem rmay_cq (p : Option Addr) (n cap : Nat) (xs : List Nd) (r : Bool) (hr : r = true ↔ ∃ t, IsPat xs t) (hk1 : ∀ (i : Nat) (x : Nd), xs[i]? = some x → x.kind = 1) (w : World) (h : Nodes w p n xs) :
    Calls Tryz.prog 34 #[.slice p n cap] w fun e w' => e = .returned (.bool r) ∧ Below w.heap.size w w' := by
  have HL := Lib.hid (look_cq p n cap xs hk1 w h)
  have HR := Lib.hid hr
  clear hr h
  go_enter Tryz.func34, Tryz.ntmps34
  go_wp2_with fail
  refine HL.out.mono ?_
  rintro e w1 ⟨⟨W, rfl, hW⟩, hB⟩
  have hg : W.g = r := by
    rw [Bool.eq_iff_iff, hW.g, HR.out]
  obtain ⟨g, k, en, r'⟩ := W
  obtain rfl : g = r := hg
  simp only [Wk.cells]
  clear hW HL HR
  have hfd : ∀ w : World, (Instr.field 97 (.agg #[.bool g, .int .i64 k, .bool (en 0), .bool (en 1), .bool (en 2), .bool (en 3), .bool (en 4), .bool (en 5), .bool (en 6), .bool (en 7), .bool (en 8), .bool (en 9), .bool r']) 0).run Tryz.prog w = .ok (.bool g) w := fun _ => by kernel_rfl
  go_wp2
  go_ret
  exact ⟨rfl, hB⟩

set_option maxRecDepth 100000 in
set_option maxHeartbeats 4000000 in
theorem rtext_inq (b o n cap : Nat) (xs : List Nd) (hlen : xs.length = n) (t : T) (hp : IsPat xs t) (hfit : ∀ (i : Nat) (x : Nd), xs[i]? = some x → x.Fits) (hk1 : ∀ (i : Nat) (x : Nd), xs[i]? = some x → x.kind = 1) (w : World) (hx : NodesAt w b o xs) :
    Calls Tryz.prog 14 #[.slice (some ⟨b, o, none⟩) n cap] w fun e w' => e = .returned (.string ⟨(text t).toArray⟩) ∧ Below w.heap.size w w' := by
  have h120 : n ≤ 120 := by have := hp.2.2.2.1; omega
  have h1 : 1 ≤ n := by have := t.size_pos; have := hp.2.2.1; omega
  have HM := Lib.hid (rmay_cq (some ⟨b, o, none⟩) n cap xs true ⟨fun _ => ⟨t, hp⟩, fun _ => rfl⟩ hk1 w (nodes_of_at hlen (by omega) hfit hx))
  have TTq : RTells b o n cap xs t := by
    obtain ⟨a0, a1, a2, a3, a4, a5, a6, a7, a8, e⟩ := leaf_only hp.1 hp.2.1 hk1
    have hf := tfits_at hfit t 0 hp.2.1
    rw [e] at hf ⊢
    exact rtells_leaf1 b o n cap xs h120 a0 a1 a2 a3 a4 a5 a6 a7 a8 hf
  have TT := fun w' hx' => TTq 0 (n - 1) w' hp.2.1 (by have := hp.2.2.1; omega) (by omega) hx'
  have ek : ((n - 1 : Nat) : Int) = (n : Int) - 1 := by omega
  rw [ek] at TT
  have T1 := Lib.hid TT
  have hwk : IntKind.i64.wrap ((n : Int) - 1) = (n : Int) - 1 := by simp [IntKind.wrap, IntKind.signed, IntKind.bits]; omega
  clear TT TTq hp hfit ek hk1
  generalize text t = tt at *
  have lb := hx.lt
  go_enter Tryz.func14, Tryz.ntmps14
  go_wp2_with fail
  refine HM.out.mono ?_
  rintro e w1 ⟨rfl, hB1⟩
  go_wp2_with fail
  refine (T1.out w1 (hx.below hB1 lb)).mono ?_
  rintro e w2 ⟨rfl, hB2⟩
  go_wp2
  go_ret
  exact ⟨rfl, hB1.trans (hB2.mono hB1.size)⟩

end Go.Proofs.YthbldjiibgnfmaaGreatDoor

namespace Go.Proofs.YthbldjiibgnfmaaGreatDoor
open Go.RowKit
set_option linter.unusedVariables false
set_option linter.unusedSimpArgs false

set_option maxRecDepth 100000 in
set_option maxHeartbeats 4000000 in
theorem rof_c (s : ByteArray) (hs : s.size < 9223372036854775807) (w : World) :
    Calls Tryz.prog 16 #[.string s] w fun e w' => e = .returned (bv (inS s s.size)) ∧ Below w.heap.size w w' := by
  obtain ⟨hz, hsz⟩ := zero_of_info (P := Tryz.prog) info27
  have hst0 := store_fresh w
  unfold bv
  go_enter Tryz.func16, Tryz.ntmps16
  go_wp2
  clear hst0
  go_loopw [4] (fun i wr => ∃ k : Nat, k ≤ s.size ∧ i = .int .i64 k ∧ Row wr w.heap.size (fun _ => false) ∧ Row wr (w.heap.size + 1) (inS s k) ∧ Below w.heap.size w wr) (fun i _ => s.size - (RowKit.intOf i).toNat)
  case atStart =>
    refine ⟨0, by omega, rfl, (Row.new w _).alloc _, ?_, ((Below.refl _ w).alloc (Nat.le_refl _) _).alloc (by simp) _⟩
    have := Row.new (w.alloc (.cells (barr fun _ => false) 28)) (fun _ => false)
    rw [World.size_alloc] at this
    exact this.congr fun i _ => by simp [inS]
  case round =>
    obtain ⟨k, hk, rfl, h0, h1, hB⟩ := hrel
    by_cases hlt : k < s.size
    · have hle := s[k].toNat_lt
      have hc := h1.cell s[k].toNat hle
      have hf := h1.fz s[k].toNat
      go_wp2
      go_roundw
      case rel =>
        refine ⟨k + 1, by omega, by simp, h0.other (by simp) _, (h1.set _ _).congr fun i _ => ?_, hB.setCell (p := ⟨w.heap.size + 1, s[k].toNat, none⟩) (by simp) _⟩
        rw [inS_succ s k i hlt]
        by_cases e : i = s[k].toNat
        · simp [e]
        · have e2 : (i == s[k].toNat) = false := by simp [e]
          rw [if_neg e, e2, Bool.or_false]
      case measure => simp [RowKit.intOf]; omega
    · obtain rfl : k = s.size := by omega
      have hst := h0.storeCells
      go_wp2
      refine wp_load_row h1 rfl rfl ?_
      go_wp2
      have q := h0.put (inS s s.size)
      have ql := q.load
      refine bodyPost_ret (v := .agg (barr (inS s s.size))) ?_ rfl ⟨rfl, Below.setRow hB (by omega) _⟩
      simp [results, Tryz.results16, asAddr, Result.andThen, ql]

end Go.Proofs.YthbldjiibgnfmaaGreatDoor
