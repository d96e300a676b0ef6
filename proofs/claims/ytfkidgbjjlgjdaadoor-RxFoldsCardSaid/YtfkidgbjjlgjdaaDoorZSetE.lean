/- Bytes: the set's bytes, rising, as a string: a range over a function whose body appends. -/
import Derived.Test.YtfkidgbjjlgjdaaDoorZSetD
import Derived.Laws.BytesArg
namespace Go.Proofs.YtfkidgbjjlgjdaaDoor
open Go.RowKit Go.Shelf
set_option linter.unusedVariables false
set_option linter.unusedSimpArgs false

attribute [local go_sem] Oper.semAt_some

theorem infoU8 : (Tryd.prog.info? 5).map (fun i => (i.zero, i.size, i.bytes)) = some (some (.int .u8 0), 1, 1) := by kernel_rfl

/-- The bytes' numbers. -/
def nums (l : List (Fin 256)) : List Int := l.map fun x => (x.1 : Int)
/-- The set's bytes as a string. -/
def bytesOf (f : Nat → Bool) : ByteArray := strOfNums (nums (U f 256))

theorem convert_own {W : World} {base k : Nat} {v : Value} {ns : List Int} (h : W.ownsRow base 5 1 v k (ns.map (Value.int .u8))) :
    (convert 52 9 v).run Tryd.prog W = .ok (.string (strOfNums ns)) W := by
  have hl : ns.length = k := by have := h.1; simpa using this
  rcases h.2 with ⟨rfl, rfl⟩ | ⟨g, cap, cur, rfl, _⟩
  · have e : ns = [] := List.eq_nil_of_length_eq_zero hl
    subst e
    exact run_convert_bytes_nil W 52 5 Tryd.underlying52 Tryd.underlying5 0 0 _ Tryd.underlying9
  · refine run_convert_bytes_arg W 52 5 Tryd.underlying52 Tryd.underlying5 g 0 k cap ns hl (fun i hi => ?_) _ Tryd.underlying9
    have := h.cellAt i (by omega)
    rw [Nat.zero_add, this]
    simp [List.getD, List.getElem?_eq_getElem (show i < ns.length by omega)]

set_option maxRecDepth 100000 in
set_option maxHeartbeats 4000000 in
theorem bytes_in (f : Nat → Bool) (w : World) (hT : TabAt 0 Lib.deBruijn64tab w) (hw : 0 < w.heap.size) :
    CallsIn Fence.wide 5 Tryd.prog 53 #[sv f] w fun e w' => e = .returned (.string (bytesOf f)) ∧ Below w.heap.size w w' := by
  obtain ⟨i0, hi, hz0, hz1, hz2⟩ := info_parts infoU8
  have HE := Lib.hid (fun w => each_in f w)
  have HS := Lib.hid (fun w => size_c f w)
  have hcnt := cnt_le f 256
  unfold sv at HE HS ⊢
  refine callsIn_of_wp_marks Tryd.func53 rfl trivial ?_ rfl
  simp only [Tryd.ntmps53, List.size_toArray, List.length_cons, List.length_nil, Nat.reduceAdd, Nat.reduceSub, Array.replicate_succ, Array.replicate_zero, List.push_toArray, List.append_toArray, List.nil_append, List.cons_append]
  gi_wp2_with fail
  refine ⟨trivial, ?_⟩
  refine (callsIn_wide.2 (HS.out _)).mono ?_
  rintro e w1 ⟨rfl, hB1⟩
  have q0 := Four.new w 39 (.int .u64 (wd f 0)) (.int .u64 (wd f 1)) (.int .u64 (wd f 2)) (.int .u64 (wd f 3))
  have q1 := q0.below hB1 q0.lt
  have hB01 : Below w.heap.size w w1 := ((Below.refl _ w).alloc (Nat.le_refl _) _).trans (hB1.mono (by simp))
  have hsz1 := hB01.size
  clear q0 hB1
  gi_wp2_with (gi_at_make; refine wpListIn_make_own _ rfl _ _ 52 rfl w.heap.size 5 i0 (.int .u8 0) 1 Tryd.underlying52 hi hz0 hz1 .i64 .i64 _ (cnt f 256) rfl rfl rfl (by rw [hz2]; omega) (by unfold maxLen; omega) hsz1 ?_; intro w2 hown hgrow; have q2 := Four.kept q1 hgrow (by simp); have q2c0 := q2.c0; have q2c1 := q2.c1; have q2c2 := q2.c2; have q2c3 := q2.c3; have q3 := q2.alloc (.cells #[.slice (some ⟨w1.heap.size, 0, none⟩) 0 (cnt f 256)] 52); have q3c0 := q3.c0; have q3c1 := q3.c1; have q3c2 := q3.c2; have q3c3 := q3.c3)
  refine ⟨trivial, (callsIn_wide.2 (HE.out _)).mono ?_⟩
  rintro e w3 ⟨rfl, rfl⟩
  gi_wp2
  have hsz2 := hgrow.size
  have hB2 : Below w.heap.size w w2 := hB01.grown hgrow hsz1 (fun k e => by cases e)
  have bO := Boxed.new w2 52 (.slice (some ⟨w1.heap.size, 0, none⟩) 0 (cnt f 256))
  have fE := Four.new (w2.alloc (.cells #[.slice (some ⟨w1.heap.size, 0, none⟩) 0 (cnt f 256)] 52)) 39 (.int .u64 (wd f 0)) (.int .u64 (wd f 1)) (.int .u64 (wd f 2)) (.int .u64 (wd f 3))
  rw [World.size_alloc] at fE
  have hB0 : Below w.heap.size w ((w2.alloc (.cells #[.slice (some ⟨w1.heap.size, 0, none⟩) 0 (cnt f 256)] 52)).alloc (.cells #[.int .u64 (wd f 0), .int .u64 (wd f 1), .int .u64 (wd f 2), .int .u64 (wd f 3)] 39)) := (hB2.alloc (by omega) _).alloc (by simp; omega) _
  have hown0 := (hown.alloc (.cells #[.slice (some ⟨w1.heap.size, 0, none⟩) 0 (cnt f 256)] 52)).alloc (.cells #[.int .u64 (wd f 0), .int .u64 (wd f 1), .int .u64 (wd f 2), .int .u64 (wd f 3)] 39)
  have bO0 := bO.alloc (.cells #[.int .u64 (wd f 0), .int .u64 (wd f 1), .int .u64 (wd f 2), .int .u64 (wd f 3)] 39)
  clear q2c0 q2c1 q2c2 q2c3 q3 q3c0 q3c1 q3c2 q3c3 q1 q2 hown bO
  refine wpIn_rangeFunc_ownG rfl (by omega) (gf := 71) (lb := #[.pointer (some ⟨w2.heap.size + 1, 0, none⟩)]) rfl trivial (enters_of Tryd.func71 (by kernel_rfl) rfl)
    (each_stops (5 - 1) (by omega) (w2.heap.size + 1) w.heap.size hw f _ (TabAt.below hT hB0 hw) fE (by simp) (by simp)) belowK_t (belowK_b (by simp; omega)) (Below.refl _ _) (fun _ => rfl)
    (fun pre W => (∃ v, Boxed W w2.heap.size 52 v ∧ W.ownsRow w.heap.size 5 1 v pre.length ((nums pre).map (Value.int .u8)) ∧ True) ∧ Below w.heap.size w W)
    (fun _ _ _ => False)
    (OwnFrom.and (Own.from (holdsRow_own w.heap.size w2.heap.size 52 5 1 (fun pre => pre.length) (fun pre => (nums pre).map (Value.int .u8)) (fun _ _ => True)) _) (ownFrom_below (Nat.le_refl _) (by simp; omega)))
    (fun _ _ _ _ _ hs _ _ => hs)
    ⟨⟨_, bO0, hown0, trivial⟩, hB0⟩
    (fun x => { tmps := #[.agg #[.int .u64 (wd f 0), .int .u64 (wd f 1), .int .u64 (wd f 2), .int .u64 (wd f 3)], .pointer (some ⟨w.heap.size, 0, none⟩), .string { data := #[] }, .pointer (some ⟨w2.heap.size, 0, none⟩), .int .u8 (x.1 : Int), .agg #[.int .u64 (wd f 0), .int .u64 (wd f 1), .int .u64 (wd f 2), .int .u64 (wd f 3)], .int .i64 (cnt f 256 : Int), .slice (some ⟨w1.heap.size, 0, none⟩) 0 (cnt f 256), .agg #[.int .u64 (wd f 0), .int .u64 (wd f 1), .int .u64 (wd f 2), .int .u64 (wd f 3)], .func (.func 71) #[] #[.pointer (some ⟨w2.heap.size + 1, 0, none⟩)], .int .u8 (x.1 : Int), undef, undef, undef, undef, undef, undef], defers := [] }) ?assign ?body ?done ?stop
  case assign =>
    intro l x W K hK
    gi_wp2
    exact hK
  case body =>
    rintro l pre x W ⟨⟨v, hv, hrow, _⟩, hB⟩ hlt
    have hc := hv.cell
    gi_wp2_with (gi_at_builtin; refine wpListIn_append_own _ rfl _ _ 52 rfl w.heap.size 5 i0 (.int .u8 0) 1 1 Tryd.underlying52 hi hz0 hz1 hz2 rfl (by decide) _ _ _ rfl (hrow.alloc _) ⟨W.heap.size, 0, none⟩ 1 1 [.int .u8 x.1] rfl rfl (cell_one_new _ _ _) (by simp [Value.oneCell']) (by unfold maxLen; omega) (by omega) (by have := hB.size; simp; omega) ?_; intro v' w1' hown' hgrow' _; obtain ⟨g', cap', rfl⟩ := ownsRow_succ hown'; obtain ⟨hv1, hv2, hr2, hk2, hb2⟩ := hv.appended (by decide) hrow hB.size (by omega) hown' hgrow'; have hc1 := hv1.cell; have hf1 := hv1.frozen)
    refine ⟨hk2.from _, hb2, ⟨_, hv2, ?_, trivial⟩, hB.trans hb2⟩
    rw [show (nums (pre ++ [x])).map (Value.int .u8) = (nums pre).map (Value.int .u8) ++ [.int .u8 (x.1 : Int)] by simp [nums]]
    simpa using hr2
  case done =>
    rintro D ys W hD rfl ⟨⟨v, hv, hrow, _⟩, hB⟩ hK
    have hc := hv.cell
    have hcv := convert_own hrow
    gi_wp2
    refine ⟨by simp, .inl ⟨_, _, rfl, run_takeDeferred hK, ?_⟩⟩
    exact ⟨_, results_tmp rfl _ _ _, rfl, hB.trans (belowK_b (w := w) (Nat.le_refl _) W D _ _ (by simp at hD; omega) hK rfl rfl)⟩
  case stop =>
    rintro D c pre W _ _ h _
    exact h.elim

/-- **Bytes: the set's bytes, rising.** -/
theorem bytes_c (f : Nat → Bool) (w : World) (hT : TabAt 0 Lib.deBruijn64tab w) (hw : 0 < w.heap.size) :
    Calls Tryd.prog 53 #[sv f] w fun e w' => e = .returned (.string (bytesOf f)) ∧ Below w.heap.size w w' :=
  (callsIn_wide (n := 5)).1 (bytes_in f w hT hw)

end Go.Proofs.YtfkidgbjjlgjdaaDoor
