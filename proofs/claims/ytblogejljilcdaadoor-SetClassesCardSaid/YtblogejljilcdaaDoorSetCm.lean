/- SetClasses: the walk. -/
import Derived.Test.YtblogejljilcdaaDoorSetCl
import Derived.Test.YtblogejljilcdaaDoorSetS
import Derived.Test.YtblogejljilcdaaDoorSetF
import Derived.Test.YtblogejljilcdaaDoorSetG
namespace Go.Proofs.YtblogejljilcdaaDoor
open Go.RowKit
set_option linter.unusedVariables false
set_option linter.unusedSimpArgs false

theorem infoB' : ∃ i, Tryd.prog.info? 4 = some i := info_of_underlying Tryd.underlying4
theorem plainB' : Tryd.prog.plainKey 4 = true := by kernel_rfl
theorem oneB' : Tryd.prog.cellsOf 4 = 1 := by kernel_rfl
theorem eq_row' (f : Nat → Bool) (w : World) : (Op.equalIn 10000 34 (.agg (barr f)) (.agg (barr f))).run Tryd.prog w = .ok true w := by
  refine eq_array w _ Tryd.underlying34 plainB' oneB' infoB' (barr_size f) (fun i v hv => ?_)
  have hi : i < 256 := by
    rcases Nat.lt_or_ge i 256 with h | h
    · exact h
    · rw [Array.getElem?_eq_none (by rw [barr_size]; exact h)] at hv; cases hv
  rw [barr_at f i hi] at hv
  cases hv
  rw [show (9999 : Nat) = 9998 + 1 from rfl, run_equalIn_bool w 9998 _ _ _ Tryd.underlying4]
  simp

theorem cell_row {W : World} {b j : Nat} {v : Value} (h : W.cell? ⟨b, j, none⟩ = some v) {b' : Nat} (hb : b ≠ b') (c : Array Value) : (W.setRow b' c).cell? ⟨b, j, none⟩ = some v := by
  have e : (W.setRow b' c).heap[b]? = W.heap[b]? := by
    show (W.heap.modify b' _)[b]? = _
    rw [Array.getElem?_modify, if_neg (fun e => hb e.symm)]
  simp only [World.cell?, e]
  exact h

set_option maxRecDepth 100000 in
set_option maxHeartbeats 40000000 in
theorem classes_go (x : ByteArray) (hl : ¬ 100 < x.size) (f : Nat → Bool) (c : Bool)
    (hc : ∀ w, Calls Tryd.prog 16 #[.string x] w fun e w' => e = .returned (.tuple #[sv f, .bool c]) ∧ Below w.heap.size w w')
    (hr : ∀ w, Calls Tryd.prog 17 #[.string x] w fun e w' => e = .returned (.tuple #[.agg (barr f), .bool c]) ∧ Below w.heap.size w w')
    (w : World) (hw : Fit w) :
    Calls Tryd.prog 4 #[.string x] w fun e w' => e = .returned (.bool true) ∧ Below w.heap.size w w' := by
  have hs : x.size < 9223372036854775807 := by omega
  have HX := Lib.hid (fun w hw => shown_c w hw); have HC := Lib.hid hc; have HR := Lib.hid hr; have HT := Lib.hid (fun w => told_c f w)
  have q1 := eq_row' f
  clear hc hr
  unfold bv at HT
  unfold sv at HC HT
  obtain ⟨hz, hsz⟩ := zero_of_info (P := Tryd.prog) info27
  go_enter Tryd.func4, Tryd.ntmps4
  go_wp2_with fail
  refine (HX.out _ (by first | exact hw | exact hw.alloc _)).mono ?_
  rintro e w0 ⟨rfl, b⟩
  go_wp2_with fail
  refine (HC.out _).mono ?_
  rintro e w1 ⟨rfl, hB⟩
  have b := b.trans (hB.mono b.size)
  clear hB
  have F := Four.new w1 24 (.int .u64 (wd f 0)) (.int .u64 (wd f 1)) (.int .u64 (wd f 2)) (.int .u64 (wd f 3))
  have lb := b.size
  have b := b.alloc b.size (.cells #[.int .u64 (wd f 0), .int .u64 (wd f 1), .int .u64 (wd f 2), .int .u64 (wd f 3)] 24)
  go_wp2_with fail
  refine (HR.out _).mono ?_
  rintro e w2 ⟨rfl, hB⟩
  have F := F.below hB F.lt
  have b := b.trans (hB.mono b.size)
  clear hB
  have Z := (Row.new w2 (fun _ => false)).storeCells f
  go_wp2_with fail
  have lf := F.lt
  have R := (Row.new w2 (fun _ => false)).put f
  have c0 := cell_row (F.alloc (.cells (barr fun _ => false) 34)).c0 (b' := w2.heap.size) (by omega) (barr f)
  have c1 := cell_row (F.alloc (.cells (barr fun _ => false) 34)).c1 (b' := w2.heap.size) (by omega) (barr f)
  have c2 := cell_row (F.alloc (.cells (barr fun _ => false) 34)).c2 (b' := w2.heap.size) (by omega) (barr f)
  have c3 := cell_row (F.alloc (.cells (barr fun _ => false) 34)).c3 (b' := w2.heap.size) (by omega) (barr f)
  have b := Below.setRow (b.alloc b.size (.cells (barr fun _ => false) 34)) b.size (barr f)
  clear Z F
  obtain ⟨V, hV⟩ : ∃ V, V = ((w2.alloc (.cells (barr fun _ => false) 34)).setRow w2.heap.size (barr f)) := ⟨_, rfl⟩
  rw [← hV] at R c0 c1 c2 c3 b ⊢
  clear hV
  refine wp_region_noPanic ?_
  refine wp_region_held_drew (S := fun w' => (w'.cell? ⟨w1.heap.size, 0, none⟩ = some (.int .u64 (wd f 0)) ∧ w'.cell? ⟨w1.heap.size, 1, none⟩ = some (.int .u64 (wd f 1)) ∧ w'.cell? ⟨w1.heap.size, 2, none⟩ = some (.int .u64 (wd f 2)) ∧ w'.cell? ⟨w1.heap.size, 3, none⟩ = some (.int .u64 (wd f 3))) ∧ Row w' w2.heap.size f ∧ Below w.heap.size w w') (by kernel_rfl) ⟨⟨c0, c1, c2, c3⟩, R.drew, b.drew⟩ (fun hHeld => ?_)
  refine wpAnyH_take (i := 0) (v := ?_) rfl (by kernel_rfl) (by kernel_rfl) (by kernel_rfl) (fun _ _ _ h => h) (Or.inl ⟨by kernel_rfl, ?_⟩) (by assumption) ?_
  rotate_left
  · (intro w hSw; (try dsimp only at hSw); go_simp); (try with_reducible rfl)
  try simp only [Act.put, List.getElem_toArray, List.getElem_cons_succ, List.getElem_cons_zero, List.setIfInBounds_toArray, List.set_cons_zero, List.set_cons_succ]
  refine wpAnyH_take (i := 2) (v := .agg (barr f)) rfl (by kernel_rfl) (by kernel_rfl) (by kernel_rfl) (fun _ _ _ h => h) (Or.inl ⟨by kernel_rfl, fun w hw => run_load_row hw.2.1 rfl rfl⟩) (by assumption) ?_
  try simp only [Act.put, List.getElem_toArray, List.getElem_cons_succ, List.getElem_cons_zero, List.setIfInBounds_toArray, List.set_cons_zero, List.set_cons_succ]
  refine wpAnyH_ready (rs := [1]) (by kernel_rfl) (by simp) ?_
  refine AllReadyH.cons rfl (fun K hK => ?_) ?_
  rotate_left
  · exact AllReadyH.nil
  go_simp
  obtain ⟨⟨c0, c1, c2, c3⟩, R, b⟩ := hHeld
  refine (HT.out _).mono ?_
  rintro e wN ⟨rfl, hB⟩
  have c0 := cell_keep hB c0; have c1 := cell_keep hB c1; have c2 := cell_keep hB c2; have c3 := cell_keep hB c3; have R := R.below hB R.lt; have b := b.trans (hB.mono b.size)
  clear hB
  refine hK.out _ _ ?_ (fun hHeld => ?_)
  · (try dsimp only); exact ⟨⟨c0, c1, c2, c3⟩, R, b⟩
  clear hK K
  try simp only [Act.put, List.getElem_toArray, List.getElem_cons_succ, List.getElem_cons_zero, List.setIfInBounds_toArray, List.set_cons_zero, List.set_cons_succ]
  refine wpAnyH_take (i := 3) (v := ?_) rfl (by kernel_rfl) (by kernel_rfl) (by kernel_rfl) (fun _ _ _ h => h) (Or.inl ⟨by kernel_rfl, ?_⟩) (by assumption) ?_
  rotate_left
  · (intro w hSw; (try dsimp only at hSw); go_simp); (try with_reducible rfl)
  try simp only [Act.put, List.getElem_toArray, List.getElem_cons_succ, List.getElem_cons_zero, List.setIfInBounds_toArray, List.set_cons_zero, List.set_cons_succ]
  refine wpAnyH_take (i := 4) (v := ?_) rfl (by kernel_rfl) (by kernel_rfl) (by kernel_rfl) (fun _ _ _ h => h) (Or.inl ⟨by kernel_rfl, ?_⟩) (by assumption) ?_
  rotate_left
  · (intro w hSw; (try dsimp only at hSw); go_simp); (try with_reducible rfl)
  try simp only [Act.put, List.getElem_toArray, List.getElem_cons_succ, List.getElem_cons_zero, List.setIfInBounds_toArray, List.set_cons_zero, List.set_cons_succ]
  refine wpAnyH_take (i := 5) (v := ?_) rfl (by kernel_rfl) (by kernel_rfl) (by kernel_rfl) (fun _ _ _ h => h) (Or.inl ⟨by kernel_rfl, ?_⟩) (by assumption) ?_
  rotate_left
  · (intro w hSw; (try dsimp only at hSw); go_simp); (try with_reducible rfl)
  try simp only [Act.put, List.getElem_toArray, List.getElem_cons_succ, List.getElem_cons_zero, List.setIfInBounds_toArray, List.set_cons_zero, List.set_cons_succ]
  refine wpAnyH_take (i := 6) (v := ?_) rfl (by kernel_rfl) (by kernel_rfl) (by kernel_rfl) (fun _ _ _ h => h) (Or.inl ⟨by kernel_rfl, ?_⟩) (by assumption) ?_
  rotate_left
  · (intro w hSw; (try dsimp only at hSw); go_simp); (try with_reducible rfl)
  try simp only [Act.put, List.getElem_toArray, List.getElem_cons_succ, List.getElem_cons_zero, List.setIfInBounds_toArray, List.set_cons_zero, List.set_cons_succ]
  refine wpAnyH_take (i := 7) (v := ?_) rfl (by kernel_rfl) (by kernel_rfl) (by kernel_rfl) (fun _ _ _ h => h) (Or.inl ⟨by kernel_rfl, ?_⟩) (by assumption) ?_
  rotate_left
  · (intro w hSw; (try dsimp only at hSw); go_simp); (try with_reducible rfl)
  try simp only [Act.put, List.getElem_toArray, List.getElem_cons_succ, List.getElem_cons_zero, List.setIfInBounds_toArray, List.set_cons_zero, List.set_cons_succ]
  refine wpAnyH_take (i := 8) (v := ?_) rfl (by kernel_rfl) (by kernel_rfl) (by kernel_rfl) (fun _ _ _ h => h) (Or.inl ⟨by kernel_rfl, ?_⟩) (by assumption) ?_
  rotate_left
  · (intro w hSw; (try dsimp only at hSw); go_simp); (try with_reducible rfl)
  try simp only [Act.put, List.getElem_toArray, List.getElem_cons_succ, List.getElem_cons_zero, List.setIfInBounds_toArray, List.set_cons_zero, List.set_cons_succ]
  refine wpAnyH_take (i := 9) (v := ?_) rfl (by kernel_rfl) (by kernel_rfl) (by kernel_rfl) (fun _ _ _ h => h) (Or.inl ⟨by kernel_rfl, ?_⟩) (by assumption) ?_
  rotate_left
  · (intro w hSw; (try dsimp only at hSw); go_simp); (try with_reducible rfl)
  try simp only [Act.put, List.getElem_toArray, List.getElem_cons_succ, List.getElem_cons_zero, List.setIfInBounds_toArray, List.set_cons_zero, List.set_cons_succ]
  refine wpAnyH_done (by kernel_rfl) ?_ _
  refine NoPanic.normal ?_
  go_wp2
  go_ret
  exact ⟨rfl, b⟩

theorem long_classes (x : ByteArray) (hl : 100 < x.size) (hx : x.size ≤ maxLen) (w : World) (hw : Fit w) :
    Calls Tryd.prog 4 #[.string x] w fun e w' => e = .returned (.bool true) ∧ Below w.heap.size w w' := by
  have HX := Lib.hid (fun w hw => shown_c w hw)
  go_enter Tryd.func4, Tryd.ntmps4
  go_wp2_with (go_at_call 15; refine (HX.out _ hw).mono ?_; rintro e w1 ⟨rfl, hB1⟩)
  go_ret
  exact ⟨rfl, hB1⟩

theorem name_of {x : ByteArray} {l : List UInt8} (h : (x.toList == l) = true) : x = ⟨l.toArray⟩ := by
  rw [ByteArray.toList_eq] at h
  obtain ⟨⟨d⟩⟩ := x
  simp at h
  subst h
  rfl

/-- The class of a name, as the reference tells it. -/
def clsV (l : List UInt8) : (Nat → Bool) × Bool :=
  if l == [117, 112, 112, 101, 114] then (rg 65 90, true) else
  if l == [108, 111, 119, 101, 114] then (rg 97 122, true) else
  if l == [97, 108, 112, 104, 97] then (fun i => rg 65 90 i || rg 97 122 i, true) else
  if l == [100, 105, 103, 105, 116] then (rg 48 57, true) else
  if l == [97, 108, 110, 117, 109] then (fun i => (rg 65 90 i || rg 97 122 i) || rg 48 57 i, true) else
  if l == [120, 100, 105, 103, 105, 116] then (fun i => rg 48 57 i || (rg 65 70 i || rg 97 102 i), true) else
  if l == [98, 108, 97, 110, 107] then (inS ⟨#[9, 32]⟩ 2, true) else
  if l == [115, 112, 97, 99, 101] then (fun i => rg 9 13 i || inS ⟨#[32]⟩ 1 i, true) else
  if l == [99, 110, 116, 114, 108] then (fun i => rg 0 31 i || rg 127 127 i, true) else
  if l == [103, 114, 97, 112, 104] then (rg 33 126, true) else
  if l == [112, 114, 105, 110, 116] then (rg 32 126, true) else
  if l == [112, 117, 110, 99, 116] then (fun i => rg 33 126 i && !((rg 65 90 i || rg 97 122 i) || rg 48 57 i), true) else
  (fun _ => false, false)

def tupV (p : (Nat → Bool) × Bool) : Value := .tuple #[.agg (barr p.1), .bool p.2]

theorem rangeR (a b : Nat) (ha : a < 256) (hb : b < 256) : RRangeTo a b (rg a b) := fun w => rrange_c a b ha hb w
theorem ofR (s : ByteArray) (hs : s.size < 9223372036854775807) : ROfTo s (inS s s.size) := fun w => rof_c s hs w
theorem orR (f g : Nat → Bool) : ROrTo f g (fun i => f i || g i) := fun w => ror_c f g w
theorem hu' : RangeTo 65 90 (rg 65 90) := rangeTo 65 90 (by omega) (by omega)
theorem hl' : RangeTo 97 122 (rg 97 122) := rangeTo 97 122 (by omega) (by omega)
theorem hd' : RangeTo 48 57 (rg 48 57) := rangeTo 48 57 (by omega) (by omega)
theorem hg' : RangeTo 33 126 (rg 33 126) := rangeTo 33 126 (by omega) (by omega)

/-- **SetClasses: true, whatever the name.** -/
theorem setClassesW (x : ByteArray) (hx : x.size ≤ maxLen) (w : World) (hw : Fit w) :
    Calls Tryd.prog 4 #[.string x] w fun e w' => e = .returned (.bool true) ∧ Below w.heap.size w w' := by
  by_cases hl : 100 < x.size
  · exact long_classes x hl hx w hw
  · have hr : ∀ w, Calls Tryd.prog 17 #[.string x] w fun e w' => e = .returned (tupV (clsV x.data.toList)) ∧ Below w.heap.size w w' := fun w => by
      refine (rclass_go x (rg 65 90) (rg 97 122) (rg 48 57) (fun i => rg 65 90 i || rg 97 122 i) (fun i => (rg 65 90 i || rg 97 122 i) || rg 48 57 i)
        ⟨rangeR 65 90 (by omega) (by omega), rangeR 97 122 (by omega) (by omega), rangeR 48 57 (by omega) (by omega), orR _ _, orR _ _⟩
        (rg 65 70) (rg 97 102) (fun i => rg 65 70 i || rg 97 102 i) (fun i => rg 48 57 i || (rg 65 70 i || rg 97 102 i)) (inS ⟨#[9, 32]⟩ 2) (rg 9 13) (inS ⟨#[32]⟩ 1) (fun i => rg 9 13 i || inS ⟨#[32]⟩ 1 i) (rg 0 31) (rg 127 127) (fun i => rg 0 31 i || rg 127 127 i) (rg 33 126) (rg 32 126)
        (rangeR 65 70 (by omega) (by omega)) (rangeR 97 102 (by omega) (by omega)) (orR _ _) (orR _ _) (ofR ⟨#[9, 32]⟩ (by decide)) (rangeR 9 13 (by omega) (by omega)) (ofR ⟨#[32]⟩ (by decide)) (orR _ _) (rangeR 0 31 (by omega) (by omega)) (rangeR 127 127 (by omega) (by omega)) (orR _ _) (rangeR 33 126 (by omega) (by omega)) (rangeR 32 126 (by omega) (by omega))
        (fun v => v = tupV (clsV x.data.toList))
        (fun h => by obtain rfl := name_of h; rfl)
        (fun h => by obtain rfl := name_of h; rfl)
        (fun h => by obtain rfl := name_of h; rfl)
        (fun h => by obtain rfl := name_of h; rfl)
        (fun h => by obtain rfl := name_of h; rfl)
        (fun h => by obtain rfl := name_of h; rfl)
        (fun h => by obtain rfl := name_of h; rfl)
        (fun h => by obtain rfl := name_of h; rfl)
        (fun h => by obtain rfl := name_of h; rfl)
        (fun h => by obtain rfl := name_of h; rfl)
        (fun h => by obtain rfl := name_of h; rfl)
        (fun h => by obtain rfl := name_of h; rfl)
        (fun h0 h1 h2 h3 h4 h5 h6 h7 h8 h9 h10 h11 => by rw [ByteArray.toList_eq] at *; simp only [clsV, h0, h1, h2, h3, h4, h5, h6, h7, h8, h9, h10, h11]; rfl) w).mono ?_
      rintro e w' ⟨⟨v, rfl, rfl⟩, hB⟩
      exact ⟨rfl, hB⟩
    have hc : ∀ w, Calls Tryd.prog 16 #[.string x] w fun e w' => e = .returned (.tuple #[sv (clsV x.data.toList).1, .bool (clsV x.data.toList).2]) ∧ Below w.heap.size w w' := fun w => by
      by_cases h0 : (x.toList == ([117, 112, 112, 101, 114] : List UInt8)) = true
      · obtain rfl := name_of h0
        have := class_upper _ _ _ _ hu' hl' hd' hg' w
        exact this.mono fun e w' ⟨he, hB⟩ => ⟨he.trans (congrArg (fun s => Ending.returned (.tuple #[s, .bool true])) (sv_congr (fun i hi => rfl))), hB⟩
      replace h0 : (x.toList == ([117, 112, 112, 101, 114] : List UInt8)) = false := by simpa using h0
      by_cases h1 : (x.toList == ([108, 111, 119, 101, 114] : List UInt8)) = true
      · obtain rfl := name_of h1
        have := class_lower _ _ _ _ hu' hl' hd' hg' w
        exact this.mono fun e w' ⟨he, hB⟩ => ⟨he.trans (congrArg (fun s => Ending.returned (.tuple #[s, .bool true])) (sv_congr (fun i hi => rfl))), hB⟩
      replace h1 : (x.toList == ([108, 111, 119, 101, 114] : List UInt8)) = false := by simpa using h1
      by_cases h2 : (x.toList == ([97, 108, 112, 104, 97] : List UInt8)) = true
      · obtain rfl := name_of h2
        have := class_alpha _ _ _ _ hu' hl' hd' hg' w
        exact this.mono fun e w' ⟨he, hB⟩ => ⟨he.trans (congrArg (fun s => Ending.returned (.tuple #[s, .bool true])) (sv_congr (fun i hi => rfl))), hB⟩
      replace h2 : (x.toList == ([97, 108, 112, 104, 97] : List UInt8)) = false := by simpa using h2
      by_cases h3 : (x.toList == ([100, 105, 103, 105, 116] : List UInt8)) = true
      · obtain rfl := name_of h3
        have := class_digit _ _ _ _ hu' hl' hd' hg' w
        exact this.mono fun e w' ⟨he, hB⟩ => ⟨he.trans (congrArg (fun s => Ending.returned (.tuple #[s, .bool true])) (sv_congr (fun i hi => rfl))), hB⟩
      replace h3 : (x.toList == ([100, 105, 103, 105, 116] : List UInt8)) = false := by simpa using h3
      by_cases h4 : (x.toList == ([97, 108, 110, 117, 109] : List UInt8)) = true
      · obtain rfl := name_of h4
        have := class_alnum _ _ _ _ hu' hl' hd' hg' w
        exact this.mono fun e w' ⟨he, hB⟩ => ⟨he.trans (congrArg (fun s => Ending.returned (.tuple #[s, .bool true])) (sv_congr (fun i hi => rfl))), hB⟩
      replace h4 : (x.toList == ([97, 108, 110, 117, 109] : List UInt8)) = false := by simpa using h4
      by_cases h5 : (x.toList == ([120, 100, 105, 103, 105, 116] : List UInt8)) = true
      · obtain rfl := name_of h5
        have := class_xdigit _ _ _ _ hu' hl' hd' hg' _ _ (rangeTo 65 70 (by omega) (by omega)) (rangeTo 97 102 (by omega) (by omega)) w
        exact this.mono fun e w' ⟨he, hB⟩ => ⟨he.trans (congrArg (fun s => Ending.returned (.tuple #[s, .bool true])) (sv_congr (fun i hi => Bool.or_assoc _ _ _))), hB⟩
      replace h5 : (x.toList == ([120, 100, 105, 103, 105, 116] : List UInt8)) = false := by simpa using h5
      by_cases h6 : (x.toList == ([98, 108, 97, 110, 107] : List UInt8)) = true
      · obtain rfl := name_of h6
        have := class_blank _ _ _ _ hu' hl' hd' hg' _ (Lib.hid (ofTo ⟨#[9, 32]⟩ (by decide))) w
        exact this.mono fun e w' ⟨he, hB⟩ => ⟨he.trans (congrArg (fun s => Ending.returned (.tuple #[s, .bool true])) (sv_congr (fun i hi => rfl))), hB⟩
      replace h6 : (x.toList == ([98, 108, 97, 110, 107] : List UInt8)) = false := by simpa using h6
      by_cases h7 : (x.toList == ([115, 112, 97, 99, 101] : List UInt8)) = true
      · obtain rfl := name_of h7
        have := class_space _ _ _ _ hu' hl' hd' hg' _ _ (rangeTo 9 13 (by omega) (by omega)) (ofTo ⟨#[32]⟩ (by decide)) w
        exact this.mono fun e w' ⟨he, hB⟩ => ⟨he.trans (congrArg (fun s => Ending.returned (.tuple #[s, .bool true])) (sv_congr (fun i hi => rfl))), hB⟩
      replace h7 : (x.toList == ([115, 112, 97, 99, 101] : List UInt8)) = false := by simpa using h7
      by_cases h8 : (x.toList == ([99, 110, 116, 114, 108] : List UInt8)) = true
      · obtain rfl := name_of h8
        have := class_cntrl _ _ _ _ hu' hl' hd' hg' _ _ (rangeTo 0 31 (by omega) (by omega)) (rangeTo 127 127 (by omega) (by omega)) w
        exact this.mono fun e w' ⟨he, hB⟩ => ⟨he.trans (congrArg (fun s => Ending.returned (.tuple #[s, .bool true])) (sv_congr (fun i hi => rfl))), hB⟩
      replace h8 : (x.toList == ([99, 110, 116, 114, 108] : List UInt8)) = false := by simpa using h8
      by_cases h9 : (x.toList == ([103, 114, 97, 112, 104] : List UInt8)) = true
      · obtain rfl := name_of h9
        have := class_graph _ _ _ _ hu' hl' hd' hg' w
        exact this.mono fun e w' ⟨he, hB⟩ => ⟨he.trans (congrArg (fun s => Ending.returned (.tuple #[s, .bool true])) (sv_congr (fun i hi => rfl))), hB⟩
      replace h9 : (x.toList == ([103, 114, 97, 112, 104] : List UInt8)) = false := by simpa using h9
      by_cases h10 : (x.toList == ([112, 114, 105, 110, 116] : List UInt8)) = true
      · obtain rfl := name_of h10
        have := class_print _ _ _ _ hu' hl' hd' hg' _ (ofTo ⟨#[32]⟩ (by decide)) w
        exact this.mono fun e w' ⟨he, hB⟩ => ⟨he.trans (congrArg (fun s => Ending.returned (.tuple #[s, .bool true])) (sv_congr (by decide +kernel))), hB⟩
      replace h10 : (x.toList == ([112, 114, 105, 110, 116] : List UInt8)) = false := by simpa using h10
      by_cases h11 : (x.toList == ([112, 117, 110, 99, 116] : List UInt8)) = true
      · obtain rfl := name_of h11
        have := punct_c w
        exact this.mono fun e w' ⟨he, hB⟩ => ⟨he.trans (congrArg (fun s => Ending.returned (.tuple #[s, .bool true])) (sv_congr (by decide +kernel))), hB⟩
      replace h11 : (x.toList == ([112, 117, 110, 99, 116] : List UInt8)) = false := by simpa using h11
      have := class_none _ _ _ _ hu' hl' hd' hg' x h0 h1 h2 h3 h4 h5 h6 h7 h8 h9 h10 h11 w
      rw [ByteArray.toList_eq] at *
      have e : clsV x.data.toList = (fun _ => false, false) := by simp only [clsV, h0, h1, h2, h3, h4, h5, h6, h7, h8, h9, h10, h11]; rfl
      rw [e]
      exact this.mono fun e w' ⟨he, hB⟩ => ⟨by rw [he]; show _ = Ending.returned (.tuple #[sv (fun _ => false), .bool false]); rw [sv_none], hB⟩
    exact classes_go x hl _ _ hc hr w hw

end Go.Proofs.YtblogejljilcdaaDoor
