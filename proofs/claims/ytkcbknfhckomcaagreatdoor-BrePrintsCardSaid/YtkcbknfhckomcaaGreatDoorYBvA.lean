/- The reference's state of what was read (P4.3). -/
import Derived.Test.YtkcbknfhckomcaaGreatDoorYSetH
import Derived.Test.YtkcbknfhckomcaaGreatDoorYRxSm
set_option linter.unusedVariables false
set_option linter.unusedSimpArgs false
set_option maxRecDepth 100000
set_option maxHeartbeats 40000000
namespace Go.Proofs.YtkcbknfhckomcaaGreatDoor
open Go.RowKit Go.Lib
def sc (v : Value) (g : Int) (en : Nat → Bool) (a e : Int) : Array Value :=
 #[v, .int .i64 g, .bool (en 0), .bool (en 1), .bool (en 2), .bool (en 3), .bool (en 4), .bool (en 5), .bool (en 6), .bool (en 7), .bool (en 8), .bool (en 9), .int .i64 a, .int .i64 e]
theorem infoSt : (Tryz.prog.info? 69).map (fun i => (i.zero, i.size)) = some (some (.agg (sc (.slice none 0 0) 0 (fun _ => false) 0 0)), 14) := by kernel_rfl
theorem sizeSt : (Tryz.prog.info? 69).map (·.size) = some 14 := (zero_of_info infoSt).2
theorem sc_size (v : Value) (g : Int) (en : Nat → Bool) (a e : Int) : (sc v g en a e).size = 14 := rfl
theorem sc_one {v : Value} (hv : v.oneCell' = true) (g : Int) (en : Nat → Bool) (a e : Int) : (sc v g en a e).all (·.oneCell') = true := by
 simp only [sc, List.all_toArray, List.all_cons, List.all_nil, hv]
 rfl
structure ST (W : World) (b : Nat) (v : Value) (g : Int) (en : Nat → Bool) (a e : Int) : Prop where
 heap : W.heap[b]? = some (.cells (sc v g en a e) 69 (0, 0))
section
variable {W : World} {b : Nat} {v : Value} {g : Int} {en : Nat → Bool} {a e : Int}
theorem ST.lt (h : ST W b v g en a e) : b < W.heap.size := (Array.getElem?_eq_some_iff.1 h.heap).1
theorem ST.cell (h : ST W b v g en a e) (j : Nat) : W.cell? ⟨b, j, none⟩ = (sc v g en a e)[j]? := by simp [World.cell?, h.heap]
theorem ST.fz (h : ST W b v g en a e) (j : Nat) : W.frozen? ⟨b, j, none⟩ = false := by simp [World.frozen?, h.heap]
theorem ST.below {B : Nat} {W' : World} (h : ST W b v g en a e) (hB : Below B W W') (hb : b < B) : ST W' b v g en a e := ⟨(hB.block b hb).trans h.heap⟩
theorem ST.alloc (h : ST W b v g en a e) (o : Obj) : ST (W.alloc o) b v g en a e := h.below (B := W.heap.size) ((Below.refl _ W).alloc (Nat.le_refl _) o) h.lt
theorem ST.drew (h : ST W b v g en a e) : ST W.drew b v g en a e := ⟨h.heap⟩
theorem ST.other (h : ST W b v g en a e) {p : Addr} (hp : b ≠ p.block) (u : Value) : ST (W.setCell p u) b v g en a e := ⟨(Below.heap_setCell W p u b hp).trans h.heap⟩
theorem ST.new (W : World) (v : Value) (g : Int) (en : Nat → Bool) (a e : Int) : ST (W.alloc (.cells (sc v g en a e) 69)) W.heap.size v g en a e := ⟨by show (W.heap.push _)[W.heap.size]? = _; simp⟩
theorem ST.setV (h : ST W b v g en a e) (u : Value) : ST (W.setCell ⟨b, 0, none⟩ u) b u g en a e := ⟨by rw [heap_setCell_same _ b 0 _ _ _ h.heap]; rfl⟩
theorem ST.setG (h : ST W b v g en a e) (k : Int) : ST (W.setCell ⟨b, 1, none⟩ (.int .i64 k)) b v k en a e := ⟨by rw [heap_setCell_same _ b 1 _ _ _ h.heap]; rfl⟩
theorem ST.load (h : ST W b v g en a e) : (loadVar 69 ⟨b, 0, none⟩).run Tryz.prog W = .ok (.agg (sc v g en a e)) W :=
 run_loadVar_row W b 69 69 _ (0, 0) _ h.heap Tryz.underlying69 rfl sizeSt
theorem ST.loadAt (h : ST W b v g en a e) : (Instr.loadAt 69 (.pointer (some ⟨b, 0, none⟩))).run Tryz.prog W = .ok (.agg (sc v g en a e)) W := by
 simp only [Instr.loadAt, Instr.sureAddr, Sem.run_bind, Sem.run_pure, Result.andThen]
 exact h.load
theorem ST.store (h : ST W b v g en a e) {v' : Value} (hv : v'.oneCell' = true) (g' : Int) (en' : Nat → Bool) (a' e' : Int) : (storeVar 69 ⟨b, 0, none⟩ (.agg (sc v' g' en' a' e'))).run Tryz.prog W = .ok () (W.setRow b (sc v' g' en' a' e')) :=
 run_storeVar_row W b 69 69 _ _ h.heap sizeSt rfl (sc_one hv _ _ _ _)
theorem ST.storeAt (h : ST W b v g en a e) {v' : Value} (hv : v'.oneCell' = true) (g' : Int) (en' : Nat → Bool) (a' e' : Int) : (Instr.storeAt 69 (.pointer (some ⟨b, 0, none⟩)) (.agg (sc v' g' en' a' e'))).run Tryz.prog W = .ok () (W.setRow b (sc v' g' en' a' e')) := by
 simp only [Instr.storeAt, Instr.sureAddr, Sem.run_bind, Sem.run_pure, Result.andThen]
 exact h.store hv g' en' a' e'
theorem ST.storeCells (h : ST W b v g en a e) {v' : Value} (hv : v'.oneCell' = true) (g' : Int) (en' : Nat → Bool) (a' e' : Int) : (storeCells ⟨b, 0, none⟩ (sc v' g' en' a' e').toList).run Tryz.prog W = .ok () (W.setRow b (sc v' g' en' a' e')) := by
 have := h.store hv g' en' a' e'
 have hs := sizeSt
 cases hq : Tryz.prog.info? 69 with
 | none => simp [hq] at hs
 | some i =>
  have h2 : i.size = 14 := by simpa [hq] using hs
  simpa [storeVar, sizeOf, typeInfo, hq, Value.cells, h2, sc_size] using this
theorem ST.put (h : ST W b v g en a e) (v' : Value) (g' : Int) (en' : Nat → Bool) (a' e' : Int) : ST (W.setRow b (sc v' g' en' a' e')) b v' g' en' a' e' := ⟨by
 obtain ⟨hlt, hk⟩ := Array.getElem?_eq_some_iff.1 h.heap
 show (W.heap.modify b _)[b]? = _
 rw [Array.getElem?_eq_getElem (by rw [Array.size_modify]; exact hlt), Array.getElem_modify_self, hk]⟩
theorem ST.setRow_other (h : ST W b v g en a e) {b' : Nat} (hb : b ≠ b') (c : Array Value) : ST (W.setRow b' c) b v g en a e := ⟨by
 show (W.heap.modify b' _)[b]? = _
 rw [Array.getElem?_modify, if_neg (fun e => hb e.symm)]; exact h.heap⟩
theorem wp_load_st {op : Oper} {c : Act} {K : Act → World → Prop} {Q : Exit → Act → World → Prop} {x : Operand} (h : ST W b v g en a e) (ho : op.op = .load 69 x) (hx : c.eval x = .pointer (some ⟨b, 0, none⟩))
  (hK : K (c.put op.dst (.agg (sc v g en a e))) W) : op.wp Tryz.prog c W K Q := by
 unfold Oper.wp execOp
 simp only [ho, hx, h.loadAt, Sem.run_bind, Sem.run_pure, Result.andThen_ok]
 exact hK
theorem wp_store_st {op : Oper} {c : Act} {K : Act → World → Prop} {Q : Exit → Act → World → Prop} {x y : Operand} {v' : Value} {g' : Int} {en' : Nat → Bool} {a' e' : Int} (h : ST W b v g en a e) (hv : v'.oneCell' = true) (ho : op.op = .store 69 x y) (hx : c.eval x = .pointer (some ⟨b, 0, none⟩)) (hy : c.eval y = .agg (sc v' g' en' a' e'))
  (hK : K (c.put op.dst undef) (W.setRow b (sc v' g' en' a' e'))) : op.wp Tryz.prog c W K Q := by
 unfold Oper.wp execOp
 simp only [ho, hx, hy, h.storeAt hv, Sem.run_bind, Sem.run_pure, Result.andThen_ok]
 exact hK
theorem wpl_load_st {ops : Array Oper} {rest : List Oper} {o : Oper} {c : Act} {Q : Exit → Act → World → Prop} {x : Operand} (h : ST W b v g en a e) (hg : o.guard = none) (ho : o.op = .load 69 x) (hx : c.eval x = .pointer (some ⟨b, 0, none⟩))
  (hK : wpList Tryz.prog ops Q rest (c.put o.dst (.agg (sc v g en a e))) W) : wpList Tryz.prog ops Q (o :: rest) c W := wpList_plain hg fun _ hK' => wp_load_st h ho hx (hK' _ _ hK)
theorem wpl_move {ops : Array Oper} {rest : List Oper} {o : Oper} {c : Act} {Q : Exit → Act → World → Prop} {x : Operand} (hg : o.guard = none) (ho : o.op = .move x)
  (hK : wpList Tryz.prog ops Q rest (c.put o.dst (c.eval x)) W) : wpList Tryz.prog ops Q (o :: rest) c W := wpList_plain hg fun _ hK' => by
 unfold Oper.wp execOp
 simp only [ho, Sem.run_bind, Sem.run_pure, Result.andThen_ok]
 exact hK' _ _ hK
theorem wpl_store_st {ops : Array Oper} {rest : List Oper} {o : Oper} {c : Act} {Q : Exit → Act → World → Prop} {x y : Operand} {v' : Value} {g' : Int} {en' : Nat → Bool} {a' e' : Int} (h : ST W b v g en a e) (hv : v'.oneCell' = true) (hg : o.guard = none) (ho : o.op = .store 69 x y) (hx : c.eval x = .pointer (some ⟨b, 0, none⟩)) (hy : c.eval y = .agg (sc v' g' en' a' e'))
  (hK : wpList Tryz.prog ops Q rest (c.put o.dst undef) (W.setRow b (sc v' g' en' a' e'))) : wpList Tryz.prog ops Q (o :: rest) c W := wpList_plain hg fun _ hK' => wp_store_st h hv ho hx hy (hK' _ _ hK)
end
theorem wrongU_c (p : Option Addr) (n c : Nat) (g : Int) (en : Nat → Bool) (a0 e0 a e : Int) (w : World) :
  Calls Tryz.prog 76 #[.agg (sc (.slice p n c) g en a0 e0), .int .i64 a, .int .i64 e] w fun r w' => r = .returned (.agg (sc (.slice p n c) g en a e)) ∧ Below w.heap.size w w' := by
 obtain ⟨hz, hsz2⟩ := zero_of_info (P := Tryz.prog) infoSt
 have b1 : Below w.heap.size w ((w.alloc (.cells (sc (.slice p n c) g en a e) 69)).alloc (.cells (sc (.slice p n c) g en a e) 69)) := ((Below.refl _ w).alloc (Nat.le_refl _) _).alloc (by simp) _
 have q := (ST.new (w.alloc (.cells (sc (.slice p n c) g en a e) 69)) (.slice p n c) g en a e).load
 rw [World.size_alloc] at q
 unfold sc at *
 generalize en 0 = n0, en 1 = n1, en 2 = n2, en 3 = n3, en 4 = n4, en 5 = n5, en 6 = n6, en 7 = n7, en 8 = n8, en 9 = n9 at *
 go_enter Tryz.func76, Tryz.ntmps76
 have Q0 := Lib.hid q
 clear q
 go_wp2_with fail
 have q := Q0.out
 exact bodyPost_ret (v := .agg #[.slice p n c, .int .i64 g, .bool n0, .bool n1, .bool n2, .bool n3, .bool n4, .bool n5, .bool n6, .bool n7, .bool n8, .bool n9, .int .i64 a, .int .i64 e]) (by simp [results, Tryz.results76, asAddr, Result.andThen, q]) rfl ⟨rfl, b1⟩
end Go.Proofs.YtkcbknfhckomcaaGreatDoor
