/- Arrays of 256 in memory; Same and the reference's Same. -/
import Derived.Test.YthnadcmejaciaaaDoorRows
import Derived.Test.YthnadcmejaciaaaDoorTrC
import Derived.WalkKit
import Derived.WalkLawsBesides
import Derived.OwnWalk
import Derived.BigQuiet
import Derived.Deep.QuietTactic
import Derived.Deep.WholeRow
import Derived.Lib.Hide
import Derived.IntWalk
namespace Go.Proofs.YthnadcmejaciaaaDoor
open Go.RowKit
set_option linter.unusedVariables false
set_option linter.unusedSimpArgs false

theorem heap_new (w : World) (o : Obj) : (w.alloc o).heap[w.heap.size]? = some o := by show (w.heap.push _)[w.heap.size]? = _; simp
theorem cell_of (w : World) (b : Nat) (vs : Array Value) (t : TypeId) {f : Nat × Nat} (h : w.heap[b]? = some (.cells vs t f)) (j : Nat) : w.cell? ⟨b, j, none⟩ = vs[j]? := by simp [World.cell?, h]
def garr (g : Nat → Value) : Array Value := ((List.range 256).map g).toArray
theorem garr_size (g : Nat → Value) : (garr g).size = 256 := by simp [garr]
theorem garr_congr {f g : Nat → Value} (h : ∀ i, i < 256 → f i = g i) : garr f = garr g := by
  unfold garr
  congr 1
  apply List.map_congr_left
  intro i hi
  exact h i (by simpa using hi)
theorem garr_at (g : Nat → Value) (j : Nat) (h : j < 256) : (garr g)[j]? = some (g j) := by simp [garr, h]
theorem garr_set (g : Nat → Value) (j : Nat) (v : Value) : (garr g).setIfInBounds j v = garr (fun i => if i = j then v else g i) := by
  apply Array.ext_getElem?
  intro i
  rw [Array.getElem?_setIfInBounds]
  by_cases hi : i < 256
  · rw [garr_at _ i hi, garr_at _ i hi, garr_size]
    by_cases e : j = i
    · subst e; simp [hi]
    · have e' : ¬ i = j := fun h => e h.symm
      simp [e, e']
  · have h1 : (garr g)[i]? = none := Array.getElem?_eq_none (by rw [garr_size]; omega)
    have h2 : (garr fun k => if k = j then v else g k)[i]? = none := Array.getElem?_eq_none (by rw [garr_size]; omega)
    rw [h1, h2, garr_size]
    split <;> first | rfl | (split <;> first | rfl | omega)
def oneAll (g : Nat → Value) : Prop := ∀ i, (g i).oneCell' = true
theorem garr_all (g : Nat → Value) (h : oneAll g) : (garr g).all (·.oneCell') = true := by
  rw [Array.all_eq_true]
  intro i hi
  have := garr_at g i (by rw [garr_size] at hi; exact hi)
  rw [Array.getElem?_eq_getElem hi] at this
  rw [Option.some.inj this]
  exact h i

/-- A type of arrays of 256. -/
structure RT (T : TypeId) : Prop where
  und : ∃ e, Tryd.prog.underlying T = some (.array 256 e)
  size : (Tryd.prog.info? T).map (·.size) = some 256
/-- Block b holds the array of g. -/
structure GR (T : TypeId) (W : World) (b : Nat) (g : Nat → Value) : Prop where
  heap : W.heap[b]? = some (.cells (garr g) T (0, 0))
section
variable {T : TypeId} {W : World} {b : Nat} {g : Nat → Value}
theorem GR.lt (h : GR T W b g) : b < W.heap.size := (Array.getElem?_eq_some_iff.1 h.heap).1
theorem GR.cell (h : GR T W b g) (j : Nat) (hj : j < 256) : W.cell? ⟨b, j, none⟩ = some (g j) := by simp [World.cell?, h.heap, garr_at g j hj]
theorem GR.fz (h : GR T W b g) (j : Nat) : W.frozen? ⟨b, j, none⟩ = false := by simp [World.frozen?, h.heap]
theorem GR.below {B : Nat} {W' : World} (h : GR T W b g) (hB : Below B W W') (hb : b < B) : GR T W' b g := ⟨(hB.block b hb).trans h.heap⟩
theorem GR.beside {W' : World} (h : GR T W b g) (hB : Below W.heap.size W W') : GR T W' b g := h.below hB h.lt
theorem GR.alloc (h : GR T W b g) (o : Obj) : GR T (W.alloc o) b g := h.below (B := W.heap.size) ((Below.refl _ W).alloc (Nat.le_refl _) o) h.lt
theorem GR.set (h : GR T W b g) (j : Nat) (v : Value) : GR T (W.setCell ⟨b, j, none⟩ v) b (fun i => if i = j then v else g i) := ⟨by rw [heap_setCell_same _ b j _ _ _ h.heap, garr_set]⟩
theorem GR.other (h : GR T W b g) {p : Addr} (hp : b ≠ p.block) (u : Value) : GR T (W.setCell p u) b g := ⟨(Below.heap_setCell W p u b hp).trans h.heap⟩
theorem GR.new (T : TypeId) (W : World) (g : Nat → Value) : GR T (W.alloc (.cells (garr g) T)) W.heap.size g := ⟨by show (W.heap.push _)[W.heap.size]? = _; simp⟩
theorem GR.congr {f : Nat → Value} (h : GR T W b g) (e : ∀ i, i < 256 → g i = f i) : GR T W b f := ⟨by rw [← garr_congr e]; exact h.heap⟩
theorem GR.load (h : GR T W b g) (t : RT T) : (loadVar T ⟨b, 0, none⟩).run Tryd.prog W = .ok (.agg (garr g)) W := by
  obtain ⟨e, he⟩ := t.und
  exact run_loadVar_row W b T T (garr g) (0, 0) _ h.heap he rfl (by rw [t.size, garr_size])
theorem GR.loadAt (h : GR T W b g) (t : RT T) : (Instr.loadAt T (.pointer (some ⟨b, 0, none⟩))).run Tryd.prog W = .ok (.agg (garr g)) W := by
  simp only [Instr.loadAt, Instr.sureAddr, Sem.run_bind, Sem.run_pure, Result.andThen]
  exact h.load t
theorem GR.store (h : GR T W b g) (t : RT T) (f : Nat → Value) (hf : oneAll f) : (storeVar T ⟨b, 0, none⟩ (.agg (garr f))).run Tryd.prog W = .ok () (W.setRow b (garr f)) :=
  run_storeVar_row W b T T (garr g) (garr f) h.heap (by rw [t.size, garr_size]) (by rw [garr_size, garr_size]) (garr_all f hf)
theorem GR.storeAt (h : GR T W b g) (t : RT T) (f : Nat → Value) (hf : oneAll f) : (Instr.storeAt T (.pointer (some ⟨b, 0, none⟩)) (.agg (garr f))).run Tryd.prog W = .ok () (W.setRow b (garr f)) := by
  simp only [Instr.storeAt, Instr.sureAddr, Sem.run_bind, Sem.run_pure, Result.andThen]
  exact h.store t f hf
theorem GR.storeCells (h : GR T W b g) (t : RT T) (f : Nat → Value) (hf : oneAll f) : (storeCells ⟨b, 0, none⟩ (garr f).toList).run Tryd.prog W = .ok () (W.setRow b (garr f)) := by
  have := h.store t f hf
  have hs := t.size
  cases hq : Tryd.prog.info? T with
  | none => simp [hq] at hs
  | some i =>
    have h2 : i.size = 256 := by simpa [hq] using hs
    simpa [storeVar, sizeOf, typeInfo, hq, Value.cells, h2, garr_size] using this
theorem GR.put (h : GR T W b g) (f : Nat → Value) : GR T (W.setRow b (garr f)) b f := ⟨by
  obtain ⟨hlt, hk⟩ := Array.getElem?_eq_some_iff.1 h.heap
  show (W.heap.modify b _)[b]? = _
  rw [Array.getElem?_eq_getElem (by rw [Array.size_modify]; exact hlt), Array.getElem_modify_self, hk]⟩
theorem Below.setRow {B : Nat} {a w : World} (h : Below B a w) {b : Nat} (hb : B ≤ b) (c : Array Value) : Below B a (w.setRow b c) :=
  h.trans ⟨rfl, rfl, rfl, by simp [World.setRow], fun k hk => by
    show (w.heap.modify b _)[k]? = _
    rw [Array.getElem?_modify, if_neg (by omega)]⟩
theorem GR.setRow_other (h : GR T W b g) {b' : Nat} (hb : b ≠ b') (c : Array Value) : GR T (W.setRow b' c) b g := ⟨by
  show (W.heap.modify b' _)[b]? = _
  rw [Array.getElem?_modify, if_neg (fun e => hb e.symm)]; exact h.heap⟩
theorem wp_load_gr {op : Oper} {a : Act} {K : Act → World → Prop} {Q : Exit → Act → World → Prop} {x : Operand} (h : GR T W b g) (t : RT T) (ho : op.op = .load T x) (hx : a.eval x = .pointer (some ⟨b, 0, none⟩))
    (hK : K (a.put op.dst (.agg (garr g))) W) : op.wp Tryd.prog a W K Q := by
  unfold Oper.wp execOp
  simp only [ho, hx, h.loadAt t, Sem.run_bind, Sem.run_pure, Result.andThen_ok]
  exact hK
/-- A whole array into the block that was made last. -/
theorem store_new (w : World) (t : RT T) (f g : Nat → Value) (hf : oneAll f) : (storeCells ⟨w.heap.size, 0, none⟩ (garr f).toList).run Tryd.prog (w.alloc (.cells (garr g) T)) = .ok () (w.alloc (.cells (garr f) T)) := by
  have := (GR.new T w g).storeCells t f hf
  rwa [World.setRow_alloc_new] at this
end

def u8z : Nat → Value := fun _ => .int .u8 0
def mv (f : Nat → UInt8) : Nat → Value := fun i => .int .u8 (f i).toNat
theorem one_mv (f : Nat → UInt8) : oneAll (mv f) := fun _ => rfl
theorem one_z : oneAll u8z := fun _ => rfl
theorem mv_z : mv (fun _ => 0) = u8z := rfl
theorem infoM : (Tryd.prog.info? 23).map (fun i => (i.zero, i.size)) = some (some (.agg (garr u8z)), 256) := by kernel_rfl
theorem infoR : (Tryd.prog.info? 28).map (fun i => (i.zero, i.size)) = some (some (.agg (garr u8z)), 256) := by kernel_rfl
theorem rtM : RT 23 := ⟨⟨_, Tryd.underlying23⟩, (zero_of_info infoM).2⟩
theorem rtR : RT 28 := ⟨⟨_, Tryd.underlying28⟩, (zero_of_info infoR).2⟩

theorem u8w (k : Nat) (h : k < 256) : IntKind.u8.wrap (k : Int) = (k : Int) := by
  unfold IntKind.wrap
  simp [IntKind.signed, IntKind.bits]
  omega
def same : Nat → UInt8 := fun j => UInt8.ofNat j
theorem same_at (k : Nat) (h : k < 256) : mv same k = .int .u8 (k : Int) := by simp [mv, same]; omega

set_option maxRecDepth 100000 in
set_option maxHeartbeats 4000000 in
theorem same_c (w : World) :
    Calls Tryd.prog 15 #[] w fun e w' => e = .returned (.agg (garr (mv same))) ∧ Below w.heap.size w w' := by
  obtain ⟨hz, hsz⟩ := zero_of_info (P := Tryd.prog) infoM
  go_enter Tryd.func15, Tryd.ntmps15
  go_wp2
  go_loopw [3] (fun i wr => ∃ k : Nat, k ≤ 256 ∧ i = .int .i64 k ∧ GR 23 wr w.heap.size u8z ∧ GR 23 wr (w.heap.size + 1) (fun j => if j < k then mv same j else u8z j) ∧ Below w.heap.size w wr) (fun i _ => 256 - (intOf i).toNat)
  case atStart =>
    refine ⟨0, by omega, rfl, (GR.new _ w _).alloc _, ?_, ((Below.refl _ w).alloc (Nat.le_refl _) _).alloc (by simp) _⟩
    have := GR.new 23 (w.alloc (.cells (garr u8z) 23)) u8z
    rw [World.size_alloc] at this
    exact this.congr fun i _ => by simp
  case round =>
    obtain ⟨k, hk, rfl, h0, h1, hB⟩ := hrel
    by_cases hlt : k < 256
    · have hc := h1.cell k hlt
      have hf := h1.fz k
      have hw := u8w k hlt
      have hs := same_at k hlt
      have HS := Lib.hid hs
      clear hs
      go_wp2
      go_roundw
      case rel =>
        refine ⟨k + 1, by omega, by simp, h0.other (by simp) _, (h1.set k _).congr fun i _ => ?_, hB.setCell (p := ⟨w.heap.size + 1, k, none⟩) (by simp) _⟩
        by_cases e : i = k
        · subst e; rw [if_pos rfl, if_pos (by omega), HS.out]
        · have e2 : (i < k + 1) = (i < k) := propext (by omega)
          simp only [e, e2, if_false]
      case measure => simp [intOf]; omega
    · obtain rfl : k = 256 := by omega
      have h1 := h1.congr (f := mv same) (fun i hi => by simp [hi])
      have hst := h0.storeCells rtM (mv same) (one_mv same)
      go_wp2
      refine wp_load_gr h1 rtM rfl rfl ?_
      go_wp2
      have q := h0.put (mv same)
      have ql := q.load rtM
      refine bodyPost_ret (v := .agg (garr (mv same))) ?_ rfl ⟨rfl, Below.setRow hB (by omega) _⟩
      simp [results, Tryd.results15, asAddr, Result.andThen, ql]

set_option maxRecDepth 100000 in
set_option maxHeartbeats 4000000 in
theorem rsame_c (w : World) :
    Calls Tryd.prog 16 #[] w fun e w' => e = .returned (.agg (garr (mv same))) ∧ Below w.heap.size w w' := by
  obtain ⟨hz, hsz⟩ := zero_of_info (P := Tryd.prog) infoR
  have hst0 := store_new (w.alloc (.cells (garr u8z) 28)) rtR u8z u8z one_z
  rw [World.size_alloc] at hst0
  go_enter Tryd.func16, Tryd.ntmps16
  go_wp2
  clear hst0
  go_loopw [2] (fun i wr => ∃ k : Nat, k ≤ 256 ∧ i = .int .i64 k ∧ GR 28 wr w.heap.size u8z ∧ GR 28 wr (w.heap.size + 1) (fun j => if j < k then mv same j else u8z j) ∧ Below w.heap.size w wr) (fun i _ => 256 - (intOf i).toNat)
  case atStart =>
    refine ⟨0, by omega, rfl, (GR.new _ w _).alloc _, ?_, ((Below.refl _ w).alloc (Nat.le_refl _) _).alloc (by simp) _⟩
    have := GR.new 28 (w.alloc (.cells (garr u8z) 28)) u8z
    rw [World.size_alloc] at this
    exact this.congr fun i _ => by simp
  case round =>
    obtain ⟨k, hk, rfl, h0, h1, hB⟩ := hrel
    by_cases hlt : k < 256
    · have hc := h1.cell k hlt
      have hf := h1.fz k
      have hw := u8w k hlt
      have hs := same_at k hlt
      have HS := Lib.hid hs
      clear hs
      go_wp2
      go_roundw
      case rel =>
        refine ⟨k + 1, by omega, by simp, h0.other (by simp) _, (h1.set k _).congr fun i _ => ?_, hB.setCell (p := ⟨w.heap.size + 1, k, none⟩) (by simp) _⟩
        by_cases e : i = k
        · subst e; rw [if_pos rfl, if_pos (by omega), HS.out]
        · have e2 : (i < k + 1) = (i < k) := propext (by omega)
          simp only [e, e2, if_false]
      case measure => simp [intOf]; omega
    · obtain rfl : k = 256 := by omega
      have h1 := h1.congr (f := mv same) (fun i hi => by simp [hi])
      have hst := h0.storeCells rtR (mv same) (one_mv same)
      go_wp2
      refine wp_load_gr h1 rtR rfl rfl ?_
      go_wp2
      have q := h0.put (mv same)
      have ql := q.load rtR
      refine bodyPost_ret (v := .agg (garr (mv same))) ?_ rfl ⟨rfl, Below.setRow hB (by omega) _⟩
      simp [results, Tryd.results16, asAddr, Result.andThen, ql]

end Go.Proofs.YthnadcmejaciaaaDoor
