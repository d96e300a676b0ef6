/- The reference's read: what is said of it; the leaves; what fails at once. -/
import Derived.Test.YthcgboebmhabeaaDoorZRxRu
import Derived.Test.YthcgboebmhabeaaDoorZRxSm
import Derived.Test.YthcgboebmhabeaaDoorZRxRc
import Derived.Maps.AppendAt
namespace Go.Proofs.YthcgboebmhabeaaDoor
open Go.RowKit Go.Lib
set_option linter.unusedVariables false
set_option linter.unusedSimpArgs false

theorem grown_of_below {w w' : World} {row : Option Nat} (h : Below w.heap.size w w') : w.grownBy w' row := ⟨h.os, h.tape, h.output, h.size, fun k hk _ => h.block k hk⟩
theorem grown_refl (w : World) (row : Option Nat) : w.grownBy w row := ⟨rfl, rfl, rfl, Nat.le_refl _, fun _ _ _ => rfl⟩
theorem grown_set {w W : World} {row : Option Nat} (h : w.grownBy W row) {p : Addr} (hp : w.heap.size ≤ p.block) (u : Value) : w.grownBy (W.setCell p u) row :=
  ⟨h.os, h.tape, h.output, by simpa [World.setCell] using h.size, fun k hk hr => (Below.heap_setCell _ _ _ _ (by omega)).trans (h.block k hk hr)⟩
theorem grown_row {w W : World} {row : Option Nat} (h : w.grownBy W row) {b : Nat} (hb : w.heap.size ≤ b) (c : Array Value) : w.grownBy (W.setRow b c) row :=
  ⟨h.os, h.tape, h.output, by simpa [World.setRow] using h.size, fun k hk hr => by
    refine Eq.trans ?_ (h.block k hk hr)
    show (W.heap.modify b _)[k]? = _
    rw [Array.getElem?_modify, if_neg (by omega)]⟩
theorem grown_alloc {w W : World} {row : Option Nat} (h : w.grownBy W row) (o : Obj) : w.grownBy (W.alloc o) row := h.trans (World.grownBy_alloc _ _ _)
theorem grown_drew {w W : World} {row : Option Nat} (h : w.grownBy W row) : w.grownBy W.drew row := ⟨h.os, h.tape, h.output, h.size, h.block⟩
theorem grown_below {w W W' : World} {row : Option Nat} (h : w.grownBy W row) (hB : Below w.heap.size W W') : w.grownBy W' row :=
  ⟨hB.os.trans h.os, hB.tape.trans h.tape, hB.output.trans h.output, Nat.le_trans h.size hB.size, fun k hk hr => (hB.block k hk).trans (h.block k hk hr)⟩
theorem grown_more {w W W' : World} {row row' : Option Nat} {m : Nat} (h : w.grownBy W row) (hm : w.heap.size ≤ m) (hat : row' = row ∨ ∃ b, row' = some b ∧ m ≤ b) (h' : W.grownBy W' row') : w.grownBy W' row :=
  ⟨h'.os.trans h.os, h'.tape.trans h.tape, h'.output.trans h.output, Nat.le_trans h.size h'.size, fun k hk hr => (h'.block k (Nat.lt_of_lt_of_le hk h.size) (by
    rcases hat with e | ⟨b, e, hb⟩
    · rw [e]; exact hr
    · rw [e]; intro q; cases q; omega)).trans (h.block k hk hr)⟩
theorem own_kept {w w' : World} {e : TypeId} {z n : Nat} {v : Value} {l : List Value} (h : w.ownsRow 0 e z v n l) {b : Nat} (hb : v.ownBlock ≠ some b) (hg : w.grownBy w' (some b)) : w'.ownsRow 0 e z v n l :=
  h.kept hg (.inr hb)
theorem own_set {w : World} {e : TypeId} {z n : Nat} {v : Value} {l : List Value} (h : w.ownsRow 0 e z v n l) {p : Addr} (hb : v.ownBlock ≠ some p.block) (u : Value) : (w.setCell p u).ownsRow 0 e z v n l :=
  own_kept h hb ⟨rfl, rfl, rfl, by simp [World.setCell], fun k hk hr => Below.heap_setCell _ _ _ _ (fun q => hr (by rw [q]))⟩

/-- What read leaves: what it makes of what it is handed. -/
def RdP (w : World) (v : Value) (r : Option (List Nd × Nat × Nat)) (e : Ending) (w' : World) : Prop :=
  w.grownBy w' v.ownBlock ∧ ((∃ (ys : List Nd) (g i : Nat) (v' : Value), r = some (ys, g, i) ∧ e = .returned (.tuple #[v', .int .i64 (g : Int), .int .i64 (i : Int)]) ∧ RRow w' 0 v' ys.length ys ∧ (v'.ownBlock = v.ownBlock ∨ ∃ b, v'.ownBlock = some b ∧ w.heap.size ≤ b)) ∨
    (r = none ∧ ∃ (v' : Value) (g : Int), e = .returned (.tuple #[v', .int .i64 g, .int .i64 (-1)])))
theorem RdP.ok {w w' : World} {v v' : Value} {ys : List Nd} {g i n : Nat} {gz iz : Int} {r : Option (List Nd × Nat × Nat)} (hr : r = some (ys, g, i)) (hg : gz = (g : Int)) (hi : iz = (i : Int)) (hn : n = ys.length) (hgr : w.grownBy w' v.ownBlock) (hrow : RRow w' 0 v' n ys) (hat : v'.ownBlock = v.ownBlock ∨ ∃ b, v'.ownBlock = some b ∧ w.heap.size ≤ b) :
    RdP w v r (.returned (.tuple #[v', .int .i64 gz, .int .i64 iz])) w' := by
  subst hg hi hn
  exact ⟨hgr, .inl ⟨ys, g, i, v', hr, rfl, hrow, hat⟩⟩
theorem RdP.bad {w w' : World} {v v' : Value} {gz : Int} {r : Option (List Nd × Nat × Nat)} (hr : r = none) (hgr : w.grownBy w' v.ownBlock) :
    RdP w v r (.returned (.tuple #[v', .int .i64 gz, .int .i64 (-1)])) w' := ⟨hgr, .inr ⟨hr, v', gz, rfl⟩⟩

/-- A block that holds a node of the reference's. -/
structure NR (w : World) (b : Nat) (x : Nd) : Prop where
  heap : w.heap[b]? = some (.cells x.cells 47 (0, 0))
section
variable {w w' : World} {b : Nat} {x : Nd}
theorem NR.lt (h : NR w b x) : b < w.heap.size := (Array.getElem?_eq_some_iff.1 h.heap).1
theorem NR.c (h : NR w b x) (j : Nat) : w.cell? ⟨b, j, none⟩ = x.cells[j]? := by rw [cell_of _ _ _ _ h.heap]
theorem NR.fz (h : NR w b x) (j : Nat) : w.frozen? ⟨b, j, none⟩ = false := frozen_of _ _ _ _ h.heap j
theorem NR.grown {row : Option Nat} (h : NR w b x) (hg : w.grownBy w' row) (hr : some b ≠ row) : NR w' b x := ⟨(hg.block b h.lt hr).trans h.heap⟩
theorem NR.below {B : Nat} (h : NR w b x) (hB : Below B w w') (hb : b < B) : NR w' b x := ⟨(hB.block b hb).trans h.heap⟩
theorem NR.drew (h : NR w b x) : NR w.drew b x := ⟨h.heap⟩
theorem NR.new (w : World) (x : Nd) : NR (w.alloc (.cells x.cells 47)) w.heap.size x := ⟨heap_new w _⟩
theorem NR.setA (h : NR w b x) (v : Int) : NR (w.setCell ⟨b, 5, none⟩ (.int .i64 v)) b ⟨x.kind, x.w0, x.w1, x.w2, x.w3, v, x.b, x.mn, x.mx, x.n⟩ := ⟨by rw [heap_setCell_same _ b 5 _ _ _ h.heap]; rfl⟩
theorem NR.setB (h : NR w b x) (v : Int) : NR (w.setCell ⟨b, 6, none⟩ (.int .i64 v)) b ⟨x.kind, x.w0, x.w1, x.w2, x.w3, x.a, v, x.mn, x.mx, x.n⟩ := ⟨by rw [heap_setCell_same _ b 6 _ _ _ h.heap]; rfl⟩
end
theorem flat_app (xs : List Nd) (x : Nd) : flat (xs ++ [x]) = flat xs ++ x.cells.toList := by simp [flat]
theorem one_cells (x : Nd) : ∀ u ∈ x.cells.toList, u.oneCell' = true := by
  intro u hu
  simp [Nd.cells] at hu
  rcases hu with rfl | rfl | rfl | rfl | rfl | rfl | rfl | rfl | rfl | rfl <;> rfl
theorem row_lt {w : World} {B n : Nat} {v : Value} {xs : List Nd} (h : RRow w B v n xs) : v.ownBlock ≠ some w.heap.size := fun e => by
  have := (World.ownsRow.lt h _ e).2
  omega
theorem ridx_c (s : List UInt8) (hl : s.length ≤ 100000) (k : Nat) (c : UInt8) (hc : s[k]? = some c) (w : World) : (Instr.index 9 (.string ⟨s.toArray⟩) (.int .i64 (k : Int))).run Tryd.prog w = .ok (.int .u8 (c.toNat : Int)) w := by
  have hsz : (⟨s.toArray⟩ : ByteArray).size = s.length := by simp [ByteArray.size]
  obtain ⟨hk, rfl⟩ := List.getElem?_eq_some_iff.1 hc
  rw [run_index_string (P := Tryd.prog) w 9 _ .i64 k Tryd.underlying9, dif_pos ⟨by omega, by rw [hsz]; omega⟩]
  simp
  rfl
theorem idx_c1 (s : List UInt8) (hl : s.length ≤ 100000) (k : Nat) (c : UInt8) (hc : s[k + 1]? = some c) (w : World) : (Instr.index 9 (.string ⟨s.toArray⟩) (.int .i64 ((k : Int) + 1))).run Tryd.prog w = .ok (.int .u8 (c.toNat : Int)) w := by
  have := ridx_c s hl (k + 1) c hc w
  simpa using this

set_option maxRecDepth 100000 in
set_option maxHeartbeats 8000000 in
theorem read_e (s : List UInt8) (hl : s.length ≤ 100000) (f d a g : Nat) (hd : d + f = 130) (xs : List Nd) (v : Value) (w : World) (hg : g ≤ a) (hx : xs.length ≤ a) (hrow : RRow w 0 v xs.length xs) (ha : s[a]? = some 101) :
    Calls Tryd.prog 14 #[.string ⟨s.toArray⟩, .int .i64 (a : Int), v, .int .i64 (g : Int), .int .i64 (d : Int)] w (RdP w v (rr s (f + 1) a xs g)) := by
  have hr : rr s (f + 1) a xs g = some (xs ++ [⟨0, 0, 0, 0, 0, 0, 0, 0, 0, 0⟩], g, a + 1) := by simp [rr, ha]
  obtain ⟨i0, hi, hz0, hz1, hz2⟩ := info_parts infoRn
  have hlt := (List.getElem?_eq_some_iff.1 ha).1
  have hx1 := fun w => ridx_c s hl a _ ha w
  have g1 : ((s.length : Int) ≤ a) = False := by simp; omega
  have g2 : ((130 : Int) < d) = False := by simp; omega
  have ew : IntKind.i64.wrap ((a : Int) + 1) = (a : Int) + 1 := by simp [IntKind.wrap, IntKind.signed, IntKind.bits]; omega
  have hx2 : ∀ w, (Instr.index 9 (.string ⟨s.toArray⟩) (.int .i64 (a : Int))).run Tryd.prog w = .ok (.int .u8 101) w := hx1
  have hne := row_lt hrow
  have hN := NR.new (w.alloc (.cells (Nd.cells ⟨0, 0, 0, 0, 0, 0, 0, 0, 0, 0⟩) 47)) ⟨0, 0, 0, 0, 0, 0, 0, 0, 0, 0⟩
  rw [World.size_alloc] at hN
  have HR := Lib.hid hr
  have HN := Lib.hid hN
  have HG := Lib.hid hrow
  clear hr hx1 ha hN hrow
  go_enter Tryd.func14, Tryd.ntmps14
  go_wp2_with (at_builtin; refine wpList_append_own_at _ rfl _ _ 27 rfl 0 47 i0 (.agg #[.int .i64 0, .int .u64 0, .int .u64 0, .int .u64 0, .int .u64 0, .int .i64 0, .int .i64 0, .int .i64 0, .int .i64 0, .int .i64 0]) 10 80 Tryd.underlying27 hi hz0 hz1 hz2 rfl (by decide) _ _ _ rfl ((HG.out.alloc _).alloc _) ⟨w.heap.size + 1, 0, none⟩ 1 1 (Nd.cells ⟨0, 0, 0, 0, 0, 0, 0, 0, 0, 0⟩).toList rfl rfl ?qc2 ?qc3 ?qc4 ?qc5 ?qc6 ?_)
  case qc3 => exact one_cells _
  case qc4 => unfold maxLen; omega
  case qc5 => omega
  case qc6 => exact Nat.zero_le _
  case qc2 =>
    intro j u hj
    rw [Addr.add_lit, Nat.zero_add]
    refine (HN.out.c j).trans ?_
    simpa using hj
  intro v' w1 hown1 hgrow hnil hat
  have hfl := flat_app xs ⟨0, 0, 0, 0, 0, 0, 0, 0, 0, 0⟩
  have h1 : RRow w1 0 v' (xs.length + 1) (xs ++ [⟨0, 0, 0, 0, 0, 0, 0, 0, 0, 0⟩]) := by unfold RRow; rw [hfl]; exact hown1
  have hgr : w.grownBy w1 v.ownBlock := grown_more (grown_alloc (grown_alloc (grown_refl w _) _) _) (Nat.le_refl _) (.inl rfl) hgrow
  have hat2 : v'.ownBlock = v.ownBlock ∨ ∃ b, v'.ownBlock = some b ∧ w.heap.size ≤ b := by
    rcases hat with e | e
    · exact .inl e
    · exact .inr ⟨_, e, by first | omega | (simp <;> omega)⟩
  clear hown1 hgrow hnil hat hfl HN HG
  go_wp2
  refine bodyPost_ret (v := .tuple #[v', .int .i64 (g : Int), .int .i64 ((a : Int) + 1)]) (by simp [results, Tryd.results14, go_sem]) rfl ?_
  exact RdP.ok HR.out rfl (by simp) (by simp) hgr h1 hat2

set_option maxRecDepth 100000 in
set_option maxHeartbeats 8000000 in
theorem read_b (s : List UInt8) (hl : s.length ≤ 100000) (f d a g : Nat) (hd : d + f = 130) (xs : List Nd) (v : Value) (w : World) (hg : g ≤ a) (hx : xs.length ≤ a) (hrow : RRow w 0 v xs.length xs) (ha : s[a]? = some 94) :
    Calls Tryd.prog 14 #[.string ⟨s.toArray⟩, .int .i64 (a : Int), v, .int .i64 (g : Int), .int .i64 (d : Int)] w (RdP w v (rr s (f + 1) a xs g)) := by
  have hr : rr s (f + 1) a xs g = some (xs ++ [⟨2, 0, 0, 0, 0, 0, 0, 0, 0, 0⟩], g, a + 1) := by simp [rr, ha]
  obtain ⟨i0, hi, hz0, hz1, hz2⟩ := info_parts infoRn
  have hlt := (List.getElem?_eq_some_iff.1 ha).1
  have hx1 := fun w => ridx_c s hl a _ ha w
  have g1 : ((s.length : Int) ≤ a) = False := by simp; omega
  have g2 : ((130 : Int) < d) = False := by simp; omega
  have ew : IntKind.i64.wrap ((a : Int) + 1) = (a : Int) + 1 := by simp [IntKind.wrap, IntKind.signed, IntKind.bits]; omega
  have hx2 : ∀ w, (Instr.index 9 (.string ⟨s.toArray⟩) (.int .i64 (a : Int))).run Tryd.prog w = .ok (.int .u8 94) w := hx1
  have hne := row_lt hrow
  have hN := NR.new (w.alloc (.cells (Nd.cells ⟨2, 0, 0, 0, 0, 0, 0, 0, 0, 0⟩) 47)) ⟨2, 0, 0, 0, 0, 0, 0, 0, 0, 0⟩
  rw [World.size_alloc] at hN
  have HR := Lib.hid hr
  have HN := Lib.hid hN
  have HG := Lib.hid hrow
  clear hr hx1 ha hN hrow
  go_enter Tryd.func14, Tryd.ntmps14
  go_wp2_with (at_builtin; refine wpList_append_own_at _ rfl _ _ 27 rfl 0 47 i0 (.agg #[.int .i64 0, .int .u64 0, .int .u64 0, .int .u64 0, .int .u64 0, .int .i64 0, .int .i64 0, .int .i64 0, .int .i64 0, .int .i64 0]) 10 80 Tryd.underlying27 hi hz0 hz1 hz2 rfl (by decide) _ _ _ rfl ((HG.out.alloc _).alloc _) ⟨w.heap.size + 1, 0, none⟩ 1 1 (Nd.cells ⟨2, 0, 0, 0, 0, 0, 0, 0, 0, 0⟩).toList rfl rfl ?qc2 ?qc3 ?qc4 ?qc5 ?qc6 ?_)
  case qc3 => exact one_cells _
  case qc4 => unfold maxLen; omega
  case qc5 => omega
  case qc6 => exact Nat.zero_le _
  case qc2 =>
    intro j u hj
    rw [Addr.add_lit, Nat.zero_add]
    refine (HN.out.c j).trans ?_
    simpa using hj
  intro v' w1 hown1 hgrow hnil hat
  have hfl := flat_app xs ⟨2, 0, 0, 0, 0, 0, 0, 0, 0, 0⟩
  have h1 : RRow w1 0 v' (xs.length + 1) (xs ++ [⟨2, 0, 0, 0, 0, 0, 0, 0, 0, 0⟩]) := by unfold RRow; rw [hfl]; exact hown1
  have hgr : w.grownBy w1 v.ownBlock := grown_more (grown_alloc (grown_alloc (grown_refl w _) _) _) (Nat.le_refl _) (.inl rfl) hgrow
  have hat2 : v'.ownBlock = v.ownBlock ∨ ∃ b, v'.ownBlock = some b ∧ w.heap.size ≤ b := by
    rcases hat with e | e
    · exact .inl e
    · exact .inr ⟨_, e, by first | omega | (simp <;> omega)⟩
  clear hown1 hgrow hnil hat hfl HN HG
  go_wp2
  refine bodyPost_ret (v := .tuple #[v', .int .i64 (g : Int), .int .i64 ((a : Int) + 1)]) (by simp [results, Tryd.results14, go_sem]) rfl ?_
  exact RdP.ok HR.out rfl (by simp) (by simp) hgr h1 hat2

set_option maxRecDepth 100000 in
set_option maxHeartbeats 8000000 in
theorem read_d (s : List UInt8) (hl : s.length ≤ 100000) (f d a g : Nat) (hd : d + f = 130) (xs : List Nd) (v : Value) (w : World) (hg : g ≤ a) (hx : xs.length ≤ a) (hrow : RRow w 0 v xs.length xs) (ha : s[a]? = some 36) :
    Calls Tryd.prog 14 #[.string ⟨s.toArray⟩, .int .i64 (a : Int), v, .int .i64 (g : Int), .int .i64 (d : Int)] w (RdP w v (rr s (f + 1) a xs g)) := by
  have hr : rr s (f + 1) a xs g = some (xs ++ [⟨3, 0, 0, 0, 0, 0, 0, 0, 0, 0⟩], g, a + 1) := by simp [rr, ha]
  obtain ⟨i0, hi, hz0, hz1, hz2⟩ := info_parts infoRn
  have hlt := (List.getElem?_eq_some_iff.1 ha).1
  have hx1 := fun w => ridx_c s hl a _ ha w
  have g1 : ((s.length : Int) ≤ a) = False := by simp; omega
  have g2 : ((130 : Int) < d) = False := by simp; omega
  have ew : IntKind.i64.wrap ((a : Int) + 1) = (a : Int) + 1 := by simp [IntKind.wrap, IntKind.signed, IntKind.bits]; omega
  have hx2 : ∀ w, (Instr.index 9 (.string ⟨s.toArray⟩) (.int .i64 (a : Int))).run Tryd.prog w = .ok (.int .u8 36) w := hx1
  have hne := row_lt hrow
  have hN := NR.new (w.alloc (.cells (Nd.cells ⟨3, 0, 0, 0, 0, 0, 0, 0, 0, 0⟩) 47)) ⟨3, 0, 0, 0, 0, 0, 0, 0, 0, 0⟩
  rw [World.size_alloc] at hN
  have HR := Lib.hid hr
  have HN := Lib.hid hN
  have HG := Lib.hid hrow
  clear hr hx1 ha hN hrow
  go_enter Tryd.func14, Tryd.ntmps14
  go_wp2_with (at_builtin; refine wpList_append_own_at _ rfl _ _ 27 rfl 0 47 i0 (.agg #[.int .i64 0, .int .u64 0, .int .u64 0, .int .u64 0, .int .u64 0, .int .i64 0, .int .i64 0, .int .i64 0, .int .i64 0, .int .i64 0]) 10 80 Tryd.underlying27 hi hz0 hz1 hz2 rfl (by decide) _ _ _ rfl ((HG.out.alloc _).alloc _) ⟨w.heap.size + 1, 0, none⟩ 1 1 (Nd.cells ⟨3, 0, 0, 0, 0, 0, 0, 0, 0, 0⟩).toList rfl rfl ?qc2 ?qc3 ?qc4 ?qc5 ?qc6 ?_)
  case qc3 => exact one_cells _
  case qc4 => unfold maxLen; omega
  case qc5 => omega
  case qc6 => exact Nat.zero_le _
  case qc2 =>
    intro j u hj
    rw [Addr.add_lit, Nat.zero_add]
    refine (HN.out.c j).trans ?_
    simpa using hj
  intro v' w1 hown1 hgrow hnil hat
  have hfl := flat_app xs ⟨3, 0, 0, 0, 0, 0, 0, 0, 0, 0⟩
  have h1 : RRow w1 0 v' (xs.length + 1) (xs ++ [⟨3, 0, 0, 0, 0, 0, 0, 0, 0, 0⟩]) := by unfold RRow; rw [hfl]; exact hown1
  have hgr : w.grownBy w1 v.ownBlock := grown_more (grown_alloc (grown_alloc (grown_refl w _) _) _) (Nat.le_refl _) (.inl rfl) hgrow
  have hat2 : v'.ownBlock = v.ownBlock ∨ ∃ b, v'.ownBlock = some b ∧ w.heap.size ≤ b := by
    rcases hat with e | e
    · exact .inl e
    · exact .inr ⟨_, e, by first | omega | (simp <;> omega)⟩
  clear hown1 hgrow hnil hat hfl HN HG
  go_wp2
  refine bodyPost_ret (v := .tuple #[v', .int .i64 (g : Int), .int .i64 ((a : Int) + 1)]) (by simp [results, Tryd.results14, go_sem]) rfl ?_
  exact RdP.ok HR.out rfl (by simp) (by simp) hgr h1 hat2

set_option maxRecDepth 100000 in
set_option maxHeartbeats 8000000 in
theorem read_end (s : List UInt8) (hl : s.length ≤ 100000) (f d a g : Nat) (hd : d + f = 130) (xs : List Nd) (v : Value) (w : World) (hg : g ≤ a) (hx : xs.length ≤ a) (hrow : RRow w 0 v xs.length xs) (ha : s.length = a) :
    Calls Tryd.prog 14 #[.string ⟨s.toArray⟩, .int .i64 (a : Int), v, .int .i64 (g : Int), .int .i64 (d : Int)] w (RdP w v (rr s (f + 1) a xs g)) := by
  have hr : rr s (f + 1) a xs g = none := by
    simp [rr, ← ha]
  subst ha
  have g1 : ((s.length : Int) ≤ s.length) = True := by simp
  have hgr : w.grownBy w v.ownBlock := grown_refl w _
  have HR := Lib.hid hr
  clear hr hrow
  go_enter Tryd.func14, Tryd.ntmps14
  go_wp2
  refine bodyPost_ret (v := .tuple #[v, .int .i64 (g : Int), .int .i64 (-1)]) (by simp [results, Tryd.results14, go_sem]) rfl ?_
  exact RdP.bad HR.out hgr

end Go.Proofs.YthcgboebmhabeaaDoor

namespace Go.Proofs.YthcgboebmhabeaaDoor
open Go.RowKit Go.Lib
set_option linter.unusedVariables false
set_option linter.unusedSimpArgs false

/-- What read does with so much depth left. -/
def RdC (s : List UInt8) (f : Nat) : Prop := ∀ (d a g : Nat) (xs : List Nd) (v : Value) (w : World), d + f = 131 → g ≤ a → xs.length ≤ a → a ≤ s.length → RRow w 0 v xs.length xs →
  Calls Tryd.prog 14 #[.string ⟨s.toArray⟩, .int .i64 (a : Int), v, .int .i64 (g : Int), .int .i64 (d : Int)] w (RdP w v (rr s f a xs g))
/-- A row of nodes that has one is a slice that is not nil. -/
theorem row_some {w : World} {v : Value} {n : Nat} {xs : List Nd} (h : RRow w 0 v n xs) (hn : 0 < n) : ∃ g cap, v = .slice (some ⟨g, 0, none⟩) n cap := by
  rcases h.2 with ⟨_, e⟩ | ⟨g, cap, cur, e, _⟩
  · omega
  · exact ⟨g, cap, e⟩
theorem size_set (w : World) (p : Addr) (u : Value) : (w.setCell p u).heap.size = w.heap.size := by simp [World.setCell]

set_option maxRecDepth 100000 in
set_option maxHeartbeats 8000000 in
theorem read_cat (s : List UInt8) (hl : s.length ≤ 100000) (f d a g : Nat) (hd : d + f = 130) (xs : List Nd) (v : Value) (w : World) (hg : g ≤ a) (hx : xs.length ≤ a) (hrow : RRow w 0 v xs.length xs) (H : RdC s f) (ha : s[a]? = some 38) :
    Calls Tryd.prog 14 #[.string ⟨s.toArray⟩, .int .i64 (a : Int), v, .int .i64 (g : Int), .int .i64 (d : Int)] w (RdP w v (rr s (f + 1) a xs g)) := by
  obtain ⟨i0, hi, hz0, hz1, hz2⟩ := info_parts infoRn
  have hlt := (List.getElem?_eq_some_iff.1 ha).1
  have hx1 := fun w => ridx_c s hl a _ ha w
  have g1 : ((s.length : Int) ≤ a) = False := by simp; omega
  have g2 : ((130 : Int) < d) = False := by simp; omega
  have ew : IntKind.i64.wrap ((a : Int) + 1) = (a : Int) + 1 := by simp [IntKind.wrap, IntKind.signed, IntKind.bits]; omega
  have ed : IntKind.i64.wrap ((d : Int) + 1) = (d : Int) + 1 := by simp [IntKind.wrap, IntKind.signed, IntKind.bits]; omega
  have eg : IntKind.i64.wrap ((g : Int) + 1) = (g : Int) + 1 := by simp [IntKind.wrap, IntKind.signed, IntKind.bits]; omega
  have hx2 : ∀ w, (Instr.index 9 (.string ⟨s.toArray⟩) (.int .i64 (a : Int))).run Tryd.prog w = .ok (.int .u8 38) w := hx1
  have hne := row_lt hrow
  have hrr : rr s (f + 1) a xs g = (rr s f (a + 1) xs g).bind fun p => (rr s f p.2.2 p.1 p.2.1).map fun q => (q.1 ++ [⟨4, 0, 0, 0, 0, (p.1.length : Int) - 1, (q.1.length : Int) - 1, 0, 0, 0⟩], q.2.1, q.2.2) := by
    simp [rr, ha]
  have hN1 := NR.new w ⟨4, 0, 0, 0, 0, 0, 0, 0, 0, 0⟩
  have hgr1 : w.grownBy (w.alloc (.cells (Nd.cells ⟨4, 0, 0, 0, 0, 0, 0, 0, 0, 0⟩) 47)) v.ownBlock := grown_alloc (grown_refl w _) _
  have IH1 := Lib.hid (H (d + 1) (a + 1) g xs v _ (by omega) (by omega) (by omega) (by omega) (World.ownsRow.alloc hrow (.cells (Nd.cells ⟨4, 0, 0, 0, 0, 0, 0, 0, 0, 0⟩) 47)))
  have IH2 := Lib.hid fun i g xs v w h1 h2 h3 h4 => H (d + 1) i g xs v w (by omega) h1 h2 h3 h4
  simp only [Int.natCast_add, Int.natCast_one] at IH1 IH2
  have HRR := Lib.hid hrr
  have HN1 := Lib.hid hN1
  have HG1 := Lib.hid hgr1
  clear hrr hN1 hgr1 H hx1 ha hrow
  go_enter Tryd.func14, Tryd.ntmps14
  go_wp2_with fail
  refine IH1.out.mono ?_
  clear IH1
  rintro e w2 ⟨hgr2, ⟨ys, g2, i2, v2, hr2, rfl, hrow2, hat2⟩ | ⟨hr2, v2, gz, rfl⟩⟩
  · have go2 := rr_goes s f (a + 1) xs g _ hr2
    have q1 := go2.i; have q2 := go2.l; have q3 := go2.n; have q4 := go2.n1; have q5 := go2.g1
    simp only at q1 q2 q3 q4 q5
    have hN2 := HN1.out.grown hgr2 (fun e => hne e.symm)
    have hne2 : v2.ownBlock ≠ some w.heap.size := by
      rcases hat2 with e | ⟨b, e, hb⟩
      · rw [e]; exact hne
      · rw [e]; intro q; cases q; (try simp at hb) <;> omega
    obtain ⟨b2, cap2, rfl⟩ := row_some hrow2 (by omega)
    have ly : ys.length ≤ 100000 := by omega
    have el : IntKind.i64.wrap ((ys.length : Int) - 1) = (ys.length : Int) - 1 := by simp [IntKind.wrap, IntKind.signed, IntKind.bits]; omega
    have gi2 : ((i2 : Int) < 0) = False := by simp
    have hN3 := hN2.setA ((ys.length : Int) - 1)
    have hrow3 := own_set hrow2 (p := ⟨w.heap.size, 5, none⟩) hne2 (.int .i64 ((ys.length : Int) - 1))
    have hgr3 := grown_set (HG1.out.trans hgr2) (p := ⟨w.heap.size, 5, none⟩) (Nat.le_refl _) (.int .i64 ((ys.length : Int) - 1))
    have cA : w2.cell? ⟨w.heap.size, 5, none⟩ = some (.int .i64 0) := (hN2.c 5).trans rfl
    have fA := hN2.fz 5
    have C2 := Lib.hid (IH2.out i2 g2 ys _ _ (by omega) (by omega) (by omega) hrow3)
    have HN3 := Lib.hid hN3
    have HG3 := Lib.hid hgr3
    have HR2 := Lib.hid hr2
    have HAT2 := Lib.hid hat2
    have HS2 := Lib.hid hgr2.size
    clear IH2 HN1 HG1 hr2 hrow2 hN2 hgr2 go2 hN3 hgr3 hrow3 hat2
    go_wp2_with fail
    refine C2.out.mono ?_
    clear C2
    rintro e w4 ⟨hgr4, ⟨zs, g4, i4, v4, hr4, rfl, hrow4, hat4⟩ | ⟨hr4, v4, gz, rfl⟩⟩
    · have go4 := rr_goes s f i2 ys g2 _ hr4
      have q6 := go4.i; have q7 := go4.l; have q8 := go4.n; have q9 := go4.n1
      simp only at q6 q7 q8 q9
      have hne3 : (Value.slice (some ⟨b2, 0, none⟩) ys.length cap2).ownBlock ≠ some w.heap.size := hne2
      have hN4 := HN3.out.grown hgr4 (fun e => hne3 e.symm)
      have hsz3 : w.heap.size < w2.heap.size := by have := HS2.out; (try simp at this) <;> omega
      have hne4 : v4.ownBlock ≠ some w.heap.size := by
        rcases hat4 with e | ⟨b, e, hb⟩
        · rw [e]; exact hne3
        · rw [e]; intro q; cases q; rw [size_set] at hb; omega
      have hat5 : v4.ownBlock = v.ownBlock ∨ ∃ b, v4.ownBlock = some b ∧ w.heap.size ≤ b := by
        rcases hat4 with e | ⟨b, e, hb⟩
        · rw [e]
          rcases HAT2.out with e' | ⟨b, e', hb⟩
          · exact .inl e'
          · exact .inr ⟨b, e', by (try simp at hb) <;> omega⟩
        · exact .inr ⟨b, e, by rw [size_set] at hb; omega⟩
      have hgr5 : w.grownBy w4 v.ownBlock := grown_more HG3.out (m := w.heap.size) (Nat.le_refl _) (by
        rcases HAT2.out with e' | ⟨b, e', hb⟩
        · exact .inl e'
        · exact .inr ⟨b, e', by (try simp at hb) <;> omega⟩) hgr4
      obtain ⟨b4, cap4, rfl⟩ := row_some hrow4 (by omega)
      have lz : zs.length ≤ 100000 := by omega
      have el2 : IntKind.i64.wrap ((zs.length : Int) - 1) = (zs.length : Int) - 1 := by simp [IntKind.wrap, IntKind.signed, IntKind.bits]; omega
      have gi4 : ((i4 : Int) < 0) = False := by simp
      have cB : w4.cell? ⟨w.heap.size, 6, none⟩ = some (.int .i64 0) := (hN4.c 6).trans rfl
      have fB := hN4.fz 6
      have hN5 := hN4.setB ((zs.length : Int) - 1)
      have z0 : World.cell? (w4.setCell ⟨w.heap.size, 6, none⟩ (.int .i64 ((zs.length : Int) - 1))) ⟨w.heap.size, 0, none⟩ = some (.int .i64 4) := (hN5.c 0).trans rfl
      have z1 : World.cell? (w4.setCell ⟨w.heap.size, 6, none⟩ (.int .i64 ((zs.length : Int) - 1))) ⟨w.heap.size, 1, none⟩ = some (.int .u64 0) := (hN5.c 1).trans rfl
      have z2 : World.cell? (w4.setCell ⟨w.heap.size, 6, none⟩ (.int .i64 ((zs.length : Int) - 1))) ⟨w.heap.size, 2, none⟩ = some (.int .u64 0) := (hN5.c 2).trans rfl
      have z3 : World.cell? (w4.setCell ⟨w.heap.size, 6, none⟩ (.int .i64 ((zs.length : Int) - 1))) ⟨w.heap.size, 3, none⟩ = some (.int .u64 0) := (hN5.c 3).trans rfl
      have z4 : World.cell? (w4.setCell ⟨w.heap.size, 6, none⟩ (.int .i64 ((zs.length : Int) - 1))) ⟨w.heap.size, 4, none⟩ = some (.int .u64 0) := (hN5.c 4).trans rfl
      have z5 : World.cell? (w4.setCell ⟨w.heap.size, 6, none⟩ (.int .i64 ((zs.length : Int) - 1))) ⟨w.heap.size, 5, none⟩ = some (.int .i64 ((ys.length : Int) - 1)) := (hN5.c 5).trans rfl
      have z6 : World.cell? (w4.setCell ⟨w.heap.size, 6, none⟩ (.int .i64 ((zs.length : Int) - 1))) ⟨w.heap.size, 6, none⟩ = some (.int .i64 ((zs.length : Int) - 1)) := (hN5.c 6).trans rfl
      have z7 : World.cell? (w4.setCell ⟨w.heap.size, 6, none⟩ (.int .i64 ((zs.length : Int) - 1))) ⟨w.heap.size, 7, none⟩ = some (.int .i64 0) := (hN5.c 7).trans rfl
      have z8 : World.cell? (w4.setCell ⟨w.heap.size, 6, none⟩ (.int .i64 ((zs.length : Int) - 1))) ⟨w.heap.size, 8, none⟩ = some (.int .i64 0) := (hN5.c 8).trans rfl
      have z9 : World.cell? (w4.setCell ⟨w.heap.size, 6, none⟩ (.int .i64 ((zs.length : Int) - 1))) ⟨w.heap.size, 9, none⟩ = some (.int .i64 0) := (hN5.c 9).trans rfl
      have hN6 := NR.new (w4.setCell ⟨w.heap.size, 6, none⟩ (.int .i64 ((zs.length : Int) - 1))) ⟨4, 0, 0, 0, 0, (ys.length : Int) - 1, (zs.length : Int) - 1, 0, 0, 0⟩
      rw [size_set] at hN6
      have HN6 := Lib.hid hN6
      have HO := Lib.hid (own_set hrow4 (p := ⟨w.heap.size, 6, none⟩) hne4 (.int .i64 ((zs.length : Int) - 1)))
      have HG5 := Lib.hid (grown_set hgr5 (p := ⟨w.heap.size, 6, none⟩) (Nat.le_refl _) (.int .i64 ((zs.length : Int) - 1)))
      have HAT5 := Lib.hid hat5
      have hs4 := hN4.lt
      have HR : Hid (rr s (f + 1) a xs g = some (zs ++ [⟨4, 0, 0, 0, 0, (ys.length : Int) - 1, (zs.length : Int) - 1, 0, 0, 0⟩], g4, i4)) := Lib.hid (HRR.out.trans (by rw [HR2.out]; simp only [Option.bind_some]; rw [hr4]; rfl))
      clear hN6 hrow4 hgr5 hat5 hN5 hN4 hgr4 hr4 hat4 HN3 HG3 HR2 HAT2 HRR go4
      go_wp2_with (at_builtin; refine wpList_append_own_at _ rfl _ _ 27 rfl 0 47 i0 (.agg #[.int .i64 0, .int .u64 0, .int .u64 0, .int .u64 0, .int .u64 0, .int .i64 0, .int .i64 0, .int .i64 0, .int .i64 0, .int .i64 0]) 10 80 Tryd.underlying27 hi hz0 hz1 hz2 rfl (by decide) _ _ _ rfl (World.ownsRow.alloc HO.out _) ⟨w4.heap.size, 0, none⟩ 1 1 (Nd.cells ⟨4, 0, 0, 0, 0, (ys.length : Int) - 1, (zs.length : Int) - 1, 0, 0, 0⟩).toList rfl rfl ?qc2 ?qc3 ?qc4 ?qc5 ?qc6 ?_)
      case qc3 => exact one_cells _
      case qc4 => unfold maxLen; omega
      case qc5 => omega
      case qc6 => exact Nat.zero_le _
      case qc2 =>
        intro j u hj
        rw [Addr.add_lit, Nat.zero_add]
        refine (HN6.out.c j).trans ?_
        simpa using hj
      intro v' w6 hown6 hgrow hnil hat
      have h1 : RRow w6 0 v' (zs.length + 1) (zs ++ [⟨4, 0, 0, 0, 0, (ys.length : Int) - 1, (zs.length : Int) - 1, 0, 0, 0⟩]) := by unfold RRow; rw [flat_app]; exact hown6
      have hat6 : v'.ownBlock = v.ownBlock ∨ ∃ b, v'.ownBlock = some b ∧ w.heap.size ≤ b := by
        rcases hat with e | e
        · rcases HAT5.out with e' | ⟨b, e', hb⟩
          · exact .inl (e.trans e')
          · exact .inr ⟨b, e.trans e', hb⟩
        · exact .inr ⟨_, e, by first | omega | (simp [World.setCell] <;> omega)⟩
      have hgr6 : w.grownBy w6 v.ownBlock := grown_more (grown_alloc HG5.out _) (m := w.heap.size) (Nat.le_refl _) HAT5.out hgrow
      clear hown6 hgrow hnil hat HG5 HAT5 HO HN6 z0 z1 z2 z3 z4 z5 z6 z7 z8 z9 cB fB
      go_wp2
      refine bodyPost_ret (v := .tuple #[v', .int .i64 (g4 : Int), .int .i64 (i4 : Int)]) (by simp [results, Tryd.results14, go_sem]) rfl ?_
      exact RdP.ok HR.out rfl rfl (by simp) hgr6 h1 hat6
    · have HR : Hid (rr s (f + 1) a xs g = none) := Lib.hid (HRR.out.trans (by rw [HR2.out]; simp only [Option.bind_some]; rw [hr4]; rfl))
      have HG5 : w.grownBy w4 v.ownBlock := grown_more HG3.out (m := w.heap.size) (Nat.le_refl _) (by
        rcases HAT2.out with e' | ⟨b, e', hb⟩
        · exact .inl e'
        · exact .inr ⟨b, e', by (try simp at hb) <;> omega⟩) hgr4
      clear hgr4 hr4 HN3 HG3 HR2 HAT2 HRR
      go_wp2
      refine bodyPost_ret (v := .tuple #[v, .int .i64 (g : Int), .int .i64 (-1)]) (by simp [results, Tryd.results14, go_sem]) rfl ?_
      exact RdP.bad HR.out HG5
  · have HR : Hid (rr s (f + 1) a xs g = none) := Lib.hid (HRR.out.trans (by rw [hr2]; rfl))
    have HG5 := HG1.out.trans hgr2
    clear hgr2 hr2 HN1 HG1 HRR IH2
    go_wp2
    refine bodyPost_ret (v := .tuple #[v, .int .i64 (g : Int), .int .i64 (-1)]) (by simp [results, Tryd.results14, go_sem]) rfl ?_
    exact RdP.bad HR.out HG5

set_option maxRecDepth 100000 in
set_option maxHeartbeats 8000000 in
theorem read_alt (s : List UInt8) (hl : s.length ≤ 100000) (f d a g : Nat) (hd : d + f = 130) (xs : List Nd) (v : Value) (w : World) (hg : g ≤ a) (hx : xs.length ≤ a) (hrow : RRow w 0 v xs.length xs) (H : RdC s f) (ha : s[a]? = some 124) :
    Calls Tryd.prog 14 #[.string ⟨s.toArray⟩, .int .i64 (a : Int), v, .int .i64 (g : Int), .int .i64 (d : Int)] w (RdP w v (rr s (f + 1) a xs g)) := by
  obtain ⟨i0, hi, hz0, hz1, hz2⟩ := info_parts infoRn
  have hlt := (List.getElem?_eq_some_iff.1 ha).1
  have hx1 := fun w => ridx_c s hl a _ ha w
  have g1 : ((s.length : Int) ≤ a) = False := by simp; omega
  have g2 : ((130 : Int) < d) = False := by simp; omega
  have ew : IntKind.i64.wrap ((a : Int) + 1) = (a : Int) + 1 := by simp [IntKind.wrap, IntKind.signed, IntKind.bits]; omega
  have ed : IntKind.i64.wrap ((d : Int) + 1) = (d : Int) + 1 := by simp [IntKind.wrap, IntKind.signed, IntKind.bits]; omega
  have eg : IntKind.i64.wrap ((g : Int) + 1) = (g : Int) + 1 := by simp [IntKind.wrap, IntKind.signed, IntKind.bits]; omega
  have hx2 : ∀ w, (Instr.index 9 (.string ⟨s.toArray⟩) (.int .i64 (a : Int))).run Tryd.prog w = .ok (.int .u8 124) w := hx1
  have hne := row_lt hrow
  have hrr : rr s (f + 1) a xs g = (rr s f (a + 1) xs g).bind fun p => (rr s f p.2.2 p.1 p.2.1).map fun q => (q.1 ++ [⟨5, 0, 0, 0, 0, (p.1.length : Int) - 1, (q.1.length : Int) - 1, 0, 0, 0⟩], q.2.1, q.2.2) := by
    simp [rr, ha]
  have hN1 := NR.new w ⟨5, 0, 0, 0, 0, 0, 0, 0, 0, 0⟩
  have hgr1 : w.grownBy (w.alloc (.cells (Nd.cells ⟨5, 0, 0, 0, 0, 0, 0, 0, 0, 0⟩) 47)) v.ownBlock := grown_alloc (grown_refl w _) _
  have IH1 := Lib.hid (H (d + 1) (a + 1) g xs v _ (by omega) (by omega) (by omega) (by omega) (World.ownsRow.alloc hrow (.cells (Nd.cells ⟨5, 0, 0, 0, 0, 0, 0, 0, 0, 0⟩) 47)))
  have IH2 := Lib.hid fun i g xs v w h1 h2 h3 h4 => H (d + 1) i g xs v w (by omega) h1 h2 h3 h4
  simp only [Int.natCast_add, Int.natCast_one] at IH1 IH2
  have HRR := Lib.hid hrr
  have HN1 := Lib.hid hN1
  have HG1 := Lib.hid hgr1
  clear hrr hN1 hgr1 H hx1 ha hrow
  go_enter Tryd.func14, Tryd.ntmps14
  go_wp2_with fail
  refine IH1.out.mono ?_
  clear IH1
  rintro e w2 ⟨hgr2, ⟨ys, g2, i2, v2, hr2, rfl, hrow2, hat2⟩ | ⟨hr2, v2, gz, rfl⟩⟩
  · have go2 := rr_goes s f (a + 1) xs g _ hr2
    have q1 := go2.i; have q2 := go2.l; have q3 := go2.n; have q4 := go2.n1; have q5 := go2.g1
    simp only at q1 q2 q3 q4 q5
    have hN2 := HN1.out.grown hgr2 (fun e => hne e.symm)
    have hne2 : v2.ownBlock ≠ some w.heap.size := by
      rcases hat2 with e | ⟨b, e, hb⟩
      · rw [e]; exact hne
      · rw [e]; intro q; cases q; (try simp at hb) <;> omega
    obtain ⟨b2, cap2, rfl⟩ := row_some hrow2 (by omega)
    have ly : ys.length ≤ 100000 := by omega
    have el : IntKind.i64.wrap ((ys.length : Int) - 1) = (ys.length : Int) - 1 := by simp [IntKind.wrap, IntKind.signed, IntKind.bits]; omega
    have gi2 : ((i2 : Int) < 0) = False := by simp
    have hN3 := hN2.setA ((ys.length : Int) - 1)
    have hrow3 := own_set hrow2 (p := ⟨w.heap.size, 5, none⟩) hne2 (.int .i64 ((ys.length : Int) - 1))
    have hgr3 := grown_set (HG1.out.trans hgr2) (p := ⟨w.heap.size, 5, none⟩) (Nat.le_refl _) (.int .i64 ((ys.length : Int) - 1))
    have cA : w2.cell? ⟨w.heap.size, 5, none⟩ = some (.int .i64 0) := (hN2.c 5).trans rfl
    have fA := hN2.fz 5
    have C2 := Lib.hid (IH2.out i2 g2 ys _ _ (by omega) (by omega) (by omega) hrow3)
    have HN3 := Lib.hid hN3
    have HG3 := Lib.hid hgr3
    have HR2 := Lib.hid hr2
    have HAT2 := Lib.hid hat2
    have HS2 := Lib.hid hgr2.size
    clear IH2 HN1 HG1 hr2 hrow2 hN2 hgr2 go2 hN3 hgr3 hrow3 hat2
    go_wp2_with fail
    refine C2.out.mono ?_
    clear C2
    rintro e w4 ⟨hgr4, ⟨zs, g4, i4, v4, hr4, rfl, hrow4, hat4⟩ | ⟨hr4, v4, gz, rfl⟩⟩
    · have go4 := rr_goes s f i2 ys g2 _ hr4
      have q6 := go4.i; have q7 := go4.l; have q8 := go4.n; have q9 := go4.n1
      simp only at q6 q7 q8 q9
      have hne3 : (Value.slice (some ⟨b2, 0, none⟩) ys.length cap2).ownBlock ≠ some w.heap.size := hne2
      have hN4 := HN3.out.grown hgr4 (fun e => hne3 e.symm)
      have hsz3 : w.heap.size < w2.heap.size := by have := HS2.out; (try simp at this) <;> omega
      have hne4 : v4.ownBlock ≠ some w.heap.size := by
        rcases hat4 with e | ⟨b, e, hb⟩
        · rw [e]; exact hne3
        · rw [e]; intro q; cases q; rw [size_set] at hb; omega
      have hat5 : v4.ownBlock = v.ownBlock ∨ ∃ b, v4.ownBlock = some b ∧ w.heap.size ≤ b := by
        rcases hat4 with e | ⟨b, e, hb⟩
        · rw [e]
          rcases HAT2.out with e' | ⟨b, e', hb⟩
          · exact .inl e'
          · exact .inr ⟨b, e', by (try simp at hb) <;> omega⟩
        · exact .inr ⟨b, e, by rw [size_set] at hb; omega⟩
      have hgr5 : w.grownBy w4 v.ownBlock := grown_more HG3.out (m := w.heap.size) (Nat.le_refl _) (by
        rcases HAT2.out with e' | ⟨b, e', hb⟩
        · exact .inl e'
        · exact .inr ⟨b, e', by (try simp at hb) <;> omega⟩) hgr4
      obtain ⟨b4, cap4, rfl⟩ := row_some hrow4 (by omega)
      have lz : zs.length ≤ 100000 := by omega
      have el2 : IntKind.i64.wrap ((zs.length : Int) - 1) = (zs.length : Int) - 1 := by simp [IntKind.wrap, IntKind.signed, IntKind.bits]; omega
      have gi4 : ((i4 : Int) < 0) = False := by simp
      have cB : w4.cell? ⟨w.heap.size, 6, none⟩ = some (.int .i64 0) := (hN4.c 6).trans rfl
      have fB := hN4.fz 6
      have hN5 := hN4.setB ((zs.length : Int) - 1)
      have z0 : World.cell? (w4.setCell ⟨w.heap.size, 6, none⟩ (.int .i64 ((zs.length : Int) - 1))) ⟨w.heap.size, 0, none⟩ = some (.int .i64 5) := (hN5.c 0).trans rfl
      have z1 : World.cell? (w4.setCell ⟨w.heap.size, 6, none⟩ (.int .i64 ((zs.length : Int) - 1))) ⟨w.heap.size, 1, none⟩ = some (.int .u64 0) := (hN5.c 1).trans rfl
      have z2 : World.cell? (w4.setCell ⟨w.heap.size, 6, none⟩ (.int .i64 ((zs.length : Int) - 1))) ⟨w.heap.size, 2, none⟩ = some (.int .u64 0) := (hN5.c 2).trans rfl
      have z3 : World.cell? (w4.setCell ⟨w.heap.size, 6, none⟩ (.int .i64 ((zs.length : Int) - 1))) ⟨w.heap.size, 3, none⟩ = some (.int .u64 0) := (hN5.c 3).trans rfl
      have z4 : World.cell? (w4.setCell ⟨w.heap.size, 6, none⟩ (.int .i64 ((zs.length : Int) - 1))) ⟨w.heap.size, 4, none⟩ = some (.int .u64 0) := (hN5.c 4).trans rfl
      have z5 : World.cell? (w4.setCell ⟨w.heap.size, 6, none⟩ (.int .i64 ((zs.length : Int) - 1))) ⟨w.heap.size, 5, none⟩ = some (.int .i64 ((ys.length : Int) - 1)) := (hN5.c 5).trans rfl
      have z6 : World.cell? (w4.setCell ⟨w.heap.size, 6, none⟩ (.int .i64 ((zs.length : Int) - 1))) ⟨w.heap.size, 6, none⟩ = some (.int .i64 ((zs.length : Int) - 1)) := (hN5.c 6).trans rfl
      have z7 : World.cell? (w4.setCell ⟨w.heap.size, 6, none⟩ (.int .i64 ((zs.length : Int) - 1))) ⟨w.heap.size, 7, none⟩ = some (.int .i64 0) := (hN5.c 7).trans rfl
      have z8 : World.cell? (w4.setCell ⟨w.heap.size, 6, none⟩ (.int .i64 ((zs.length : Int) - 1))) ⟨w.heap.size, 8, none⟩ = some (.int .i64 0) := (hN5.c 8).trans rfl
      have z9 : World.cell? (w4.setCell ⟨w.heap.size, 6, none⟩ (.int .i64 ((zs.length : Int) - 1))) ⟨w.heap.size, 9, none⟩ = some (.int .i64 0) := (hN5.c 9).trans rfl
      have hN6 := NR.new (w4.setCell ⟨w.heap.size, 6, none⟩ (.int .i64 ((zs.length : Int) - 1))) ⟨5, 0, 0, 0, 0, (ys.length : Int) - 1, (zs.length : Int) - 1, 0, 0, 0⟩
      rw [size_set] at hN6
      have HN6 := Lib.hid hN6
      have HO := Lib.hid (own_set hrow4 (p := ⟨w.heap.size, 6, none⟩) hne4 (.int .i64 ((zs.length : Int) - 1)))
      have HG5 := Lib.hid (grown_set hgr5 (p := ⟨w.heap.size, 6, none⟩) (Nat.le_refl _) (.int .i64 ((zs.length : Int) - 1)))
      have HAT5 := Lib.hid hat5
      have hs4 := hN4.lt
      have HR : Hid (rr s (f + 1) a xs g = some (zs ++ [⟨5, 0, 0, 0, 0, (ys.length : Int) - 1, (zs.length : Int) - 1, 0, 0, 0⟩], g4, i4)) := Lib.hid (HRR.out.trans (by rw [HR2.out]; simp only [Option.bind_some]; rw [hr4]; rfl))
      clear hN6 hrow4 hgr5 hat5 hN5 hN4 hgr4 hr4 hat4 HN3 HG3 HR2 HAT2 HRR go4
      go_wp2_with (at_builtin; refine wpList_append_own_at _ rfl _ _ 27 rfl 0 47 i0 (.agg #[.int .i64 0, .int .u64 0, .int .u64 0, .int .u64 0, .int .u64 0, .int .i64 0, .int .i64 0, .int .i64 0, .int .i64 0, .int .i64 0]) 10 80 Tryd.underlying27 hi hz0 hz1 hz2 rfl (by decide) _ _ _ rfl (World.ownsRow.alloc HO.out _) ⟨w4.heap.size, 0, none⟩ 1 1 (Nd.cells ⟨5, 0, 0, 0, 0, (ys.length : Int) - 1, (zs.length : Int) - 1, 0, 0, 0⟩).toList rfl rfl ?qc2 ?qc3 ?qc4 ?qc5 ?qc6 ?_)
      case qc3 => exact one_cells _
      case qc4 => unfold maxLen; omega
      case qc5 => omega
      case qc6 => exact Nat.zero_le _
      case qc2 =>
        intro j u hj
        rw [Addr.add_lit, Nat.zero_add]
        refine (HN6.out.c j).trans ?_
        simpa using hj
      intro v' w6 hown6 hgrow hnil hat
      have h1 : RRow w6 0 v' (zs.length + 1) (zs ++ [⟨5, 0, 0, 0, 0, (ys.length : Int) - 1, (zs.length : Int) - 1, 0, 0, 0⟩]) := by unfold RRow; rw [flat_app]; exact hown6
      have hat6 : v'.ownBlock = v.ownBlock ∨ ∃ b, v'.ownBlock = some b ∧ w.heap.size ≤ b := by
        rcases hat with e | e
        · rcases HAT5.out with e' | ⟨b, e', hb⟩
          · exact .inl (e.trans e')
          · exact .inr ⟨b, e.trans e', hb⟩
        · exact .inr ⟨_, e, by first | omega | (simp [World.setCell] <;> omega)⟩
      have hgr6 : w.grownBy w6 v.ownBlock := grown_more (grown_alloc HG5.out _) (m := w.heap.size) (Nat.le_refl _) HAT5.out hgrow
      clear hown6 hgrow hnil hat HG5 HAT5 HO HN6 z0 z1 z2 z3 z4 z5 z6 z7 z8 z9 cB fB
      go_wp2
      refine bodyPost_ret (v := .tuple #[v', .int .i64 (g4 : Int), .int .i64 (i4 : Int)]) (by simp [results, Tryd.results14, go_sem]) rfl ?_
      exact RdP.ok HR.out rfl rfl (by simp) hgr6 h1 hat6
    · have HR : Hid (rr s (f + 1) a xs g = none) := Lib.hid (HRR.out.trans (by rw [HR2.out]; simp only [Option.bind_some]; rw [hr4]; rfl))
      have HG5 : w.grownBy w4 v.ownBlock := grown_more HG3.out (m := w.heap.size) (Nat.le_refl _) (by
        rcases HAT2.out with e' | ⟨b, e', hb⟩
        · exact .inl e'
        · exact .inr ⟨b, e', by (try simp at hb) <;> omega⟩) hgr4
      clear hgr4 hr4 HN3 HG3 HR2 HAT2 HRR
      go_wp2
      refine bodyPost_ret (v := .tuple #[v, .int .i64 (g : Int), .int .i64 (-1)]) (by simp [results, Tryd.results14, go_sem]) rfl ?_
      exact RdP.bad HR.out HG5
  · have HR : Hid (rr s (f + 1) a xs g = none) := Lib.hid (HRR.out.trans (by rw [hr2]; rfl))
    have HG5 := HG1.out.trans hgr2
    clear hgr2 hr2 HN1 HG1 HRR IH2
    go_wp2
    refine bodyPost_ret (v := .tuple #[v, .int .i64 (g : Int), .int .i64 (-1)]) (by simp [results, Tryd.results14, go_sem]) rfl ?_
    exact RdP.bad HR.out HG5

end Go.Proofs.YthcgboebmhabeaaDoor
