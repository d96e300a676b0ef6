/- A list of nodes in memory; inOrder. -/
import Derived.Test.YtjgegohidhdbpaaGreatDoorJRxB
import Derived.OwnWalk
import Derived.BigQuiet
import Derived.Deep.QuietTactic
open Go.Proofs.Tryz
set_option linter.unusedVariables false
set_option linter.unusedSimpArgs false
set_option maxRecDepth 100000
set_option maxHeartbeats 40000000
namespace Go.Proofs.YtjgegohidhdbpaaGreatDoor
open Go.RowKit
structure qn (w : World) (b o : Nat) (xs : List Nd) : Prop where
 lt : b < w.heap.size
 cell : ∀ (i : Nat) (x : Nd), xs[i]? = some x → ∀ (j : Nat) (v : Value), x.cells[j]? = some v → w.cell? ⟨b, o + i * 10 + j, none⟩ = some v
theorem qn.below {w w' : World} {B b o : Nat} {xs : List Nd} (h : qn w b o xs) (hB : Below B w w') (hb : b < B) : qn w' b o xs :=
 ⟨Nat.lt_of_lt_of_le h.lt hB.size, fun i x hx j v hv => by
  rw [hB.cell (p := ⟨b, _, none⟩) hb]; exact h.cell i x hx j v hv⟩
def ints (f : Nat → Int) (n : Nat) : Array Value := ((List.range n).map fun i => Value.int .i64 (f i)).toArray
structure jt (w : World) (b n : Nat) (f : Nat → Int) : Prop where
 heap : w.heap[b]? = some (.cells (ints f n) 3 (0, 0))
theorem QZ (f : Nat → Int) (n : Nat) : (ints f n).size = n := by simp [ints]
theorem ints_at (f : Nat → Int) (n j : Nat) (h : j < n) : (ints f n)[j]? = some (.int .i64 (f j)) := by simp [ints, h]
theorem ints_set (f : Nat → Int) (n j : Nat) (v : Int) : (ints f n).setIfInBounds j (.int .i64 v) = ints (fun i => if i = j then v else f i) n := by
 apply Array.ext_getElem?
 intro i
 rw [Array.getElem?_setIfInBounds]
 by_cases hi : i < n
 ·rw [ints_at _ n i hi, ints_at _ n i hi, QZ]
  by_cases e : j = i
  ·subst e; simp [hi]
  ·have e' : ¬ i = j := fun h => e h.symm
   simp [e, e']
 ·have h1 : (ints f n)[i]? = none := Array.getElem?_eq_none (by rw [QZ]; omega)
  have h2 : (ints (fun k => if k = j then v else f k) n)[i]? = none := Array.getElem?_eq_none (by rw [QZ]; omega)
  rw [h1, h2, QZ]
  split <;> first | rfl | (split <;> first | rfl | omega)
section
variable {w : World} {b n : Nat} {f : Nat → Int}
theorem jt.lt (h : jt w b n f) : b < w.heap.size := (Array.getElem?_eq_some_iff.1 h.heap).1
theorem jt.cell (h : jt w b n f) (j : Nat) (hj : j < n) : w.cell? ⟨b, j, none⟩ = some (.int .i64 (f j)) := by simp [World.cell?, h.heap, ints_at f n j hj]
theorem jt.fz (h : jt w b n f) (j : Nat) : w.frozen? ⟨b, j, none⟩ = false := by simp [World.frozen?, h.heap]
theorem jt.below {B : Nat} {w' : World} (h : jt w b n f) (hB : Below B w w') (hb : b < B) : jt w' b n f := ⟨(hB.block b hb).trans h.heap⟩
theorem jt.alloc (h : jt w b n f) (o : Obj) : jt (w.alloc o) b n f := h.below (B := w.heap.size) ((Below.refl _ w).alloc (Nat.le_refl _) o) h.lt
theorem jt.set (h : jt w b n f) (j : Nat) (v : Int) : jt (w.setCell ⟨b, j, none⟩ (.int .i64 v)) b n (fun i => if i = j then v else f i) := ⟨by rw [heap_setCell_same _ b j _ _ _ h.heap, ints_set]⟩
end
structure NB (w : World) (b : Nat) (x : Nd) : Prop where
 heap : w.heap[b]? = some (.cells x.cells 57 (0, 0))
theorem NB.new (w : World) (x : Nd) : NB (w.alloc (.cells x.cells 57)) w.heap.size x := ⟨by show (w.heap.push _)[w.heap.size]? = _; simp⟩
theorem NB.lt {w : World} {b : Nat} {x : Nd} (h : NB w b x) : b < w.heap.size := (Array.getElem?_eq_some_iff.1 h.heap).1
theorem NB.c {w : World} {b : Nat} {x : Nd} (h : NB w b x) (j : Nat) : w.cell? ⟨b, j, none⟩ = x.cells[j]? := by simp [World.cell?, h.heap]
theorem NB.fz {w : World} {b : Nat} {x : Nd} (h : NB w b x) (j : Nat) : w.frozen? ⟨b, j, none⟩ = false := by simp [World.frozen?, h.heap]
theorem NB.below {w w' : World} {B b : Nat} {x : Nd} (h : NB w b x) (hB : Below B w w') (hb : b < B) : NB w' b x := ⟨(hB.block b hb).trans h.heap⟩
theorem NB.drew {w : World} {b : Nat} {x : Nd} (h : NB w b x) : NB w.drew b x := ⟨h.heap⟩
theorem jt.drew {w : World} {b n : Nat} {f : Nat → Int} (h : jt w b n f) : jt w.drew b n f := ⟨h.heap⟩
theorem wrap_small (p : Nat) (h : p < 1000) : IntKind.i64.wrap (p : Int) = p := by
 simp [IntKind.wrap, IntKind.signed, IntKind.bits]; omega
theorem jt.drewN {w : World} {b n : Nat} {f : Nat → Int} (h : jt w b n f) (k : Nat) : jt (w.drewN k) b n f := ⟨h.heap⟩
theorem qg3 : (Tryz.prog.info? 3).map (fun i => (i.zero, i.size, i.bytes)) = some (some (.int .i64 0), 1, 8) := by kernel_rfl
theorem jt.new (w : World) (n : Nat) (f : Nat → Int) : jt (w.alloc (.cells (ints f n) 3)) w.heap.size n f := ⟨by show (w.heap.push _)[w.heap.size]? = _; simp⟩
theorem qfx (n : Nat) (hn : n ≤ 120) (w : World) : (Instr.makeSlice 43 (.int .i64 n) (.int .i64 n)).run prog w = .ok (.slice (some ⟨w.heap.size, 0, none⟩) n n) (w.alloc (.cells (ints (fun _ => 0) n) 3)) := by
 obtain ⟨i, hi, QX, kF, vv⟩ := info_parts qg3
 have h := run_makeSlice (P := prog) w 43 3 i (.int .i64 0) underlying43 hi QX .i64 .i64 n n (by omega) (by omega) (by rw [kF]; omega) (by rw [vv]; omega) (by omega)
 rw [h]
 have e : madeCells (Value.int .i64 0).cells ((n : Int).toNat * i.size) = ints (fun _ => 0) n := by
  rw [kF]
  apply Array.ext
  ·simp [madeCells, ints, Value.cells]
  ·intro i h1 h2
   simp [madeCells, ints, Value.cells, Nat.mod_one]
 rw [e]
 simp
theorem V3 (b o n cap : Nat) (xs : List Nd) (hn : xs.length = n) (h1 : 1 ≤ n) (h2 : n ≤ 120) (Qp : ∀ (i : Nat) (x : Nd), xs[i]? = some x → qY x = true) (r : Bool) (hr : r = true ↔ T.Whole (fun i => xs[i]?) n) (w : World) (hx : qn w b o xs) :
  Calls prog 55 #[.slice (some ⟨b, o, none⟩) n cap] w fun e w' => e = .returned (.bool r) ∧ Below w.heap.size w w' := by
 have HF : ∀ k, k < n → (¬ ∃ b, T.Ends (fun i => xs[i]?) b k) → r = false := fun k hk h => by
  cases r
  ·rfl
  ·exact absurd ((hr.1 rfl).inner hk) h
 have HF := ξ HF; have HN := ξ Qp; have HR := ξ hr
 clear Qp hr
 go_enter func55, ntmps55
 have hm := qfx n h2 w
 go_wp2
 clear hm
 have lb := hx.lt
 go_loopw [11] (fun i wr => ∃ k : Nat, k ≤ n ∧ i = .int .i64 k ∧ (∃ f, jt wr w.heap.size n f ∧ ∀ j, j < k → ∃ c : Nat, T.Ends (fun i => xs[i]?) c j ∧ f j = c) ∧ Below w.heap.size w wr) (fun i _ => n - (RowKit.intOf i).toNat)
 case atStart =>
  exact ⟨0, by omega, rfl, ⟨fun _ => 0, jt.new w n _, fun j hj => by omega⟩, (Below.refl _ w).alloc (Nat.le_refl _) _⟩
 case round =>
  obtain ⟨k, hk, rfl, ⟨f, hf, hg⟩, hB⟩ := hrel
  have HG := ξ hg
  clear hg
  by_cases zb : k < n
  ·obtain ⟨x, yI⟩ : ∃ x, xs[k]? = some x := ⟨xs[k]'(by omega), List.getElem?_eq_getElem (by omega)⟩
   have hxn := HN.out k x yI
   have hw := hx.below hB hx.lt
   have d := hw.cell k x yI
   obtain ⟨kd, w0, w1, w2, w3, xa, xb, m, M, xn⟩ := x
   have d_ := zB d
   clear d
   have XH := hf.cell k zb
   have hfk := hf.fz k
   have ks := KC hxn
   simp only at ks
   have lB := hB.size
   have lf := hf.lt
   have gl : ∀ W, jt W w.heap.size n (fun i => if i = k then (k : Int) else f i) → (kd = 0 ∨ kd = 1 ∨ kd = 2 ∨ kd = 3 ∨ kd = 8) → ∃ f, jt W w.heap.size n f ∧ ∀ j, j < k + 1 → ∃ c : Nat, T.Ends (fun i => xs[i]?) c j ∧ f j = c := fun W hW hq => by
    refine ⟨_, hW, fun j hj => ?_⟩
    by_cases e : j = k
    ·subst e; exact ⟨j, T.ends_leaf yI hxn hq, by simp⟩
    ·obtain ⟨c, hc, Wi⟩ := HG.out j (by omega)
     exact ⟨c, hc, by simp [e, Wi]⟩
   have GL := ξ gl
   clear gl
   rcases ks with rfl | rfl | rfl | rfl | rfl | rfl | rfl | rfl | rfl
   ·go_wp2
    go_roundw
    case rel => exact ⟨k + 1, by omega, by simp, GL.out _ ((hf.set k k).alloc _) (by omega), (hB.setCell (p := ⟨w.heap.size, k, none⟩) (by simp) _).alloc (by simp; omega) _⟩
    case measure => (simp [RowKit.intOf]) <;> omega
   ·go_wp2
    go_roundw
    case rel => exact ⟨k + 1, by omega, by simp, GL.out _ ((hf.set k k).alloc _) (by omega), (hB.setCell (p := ⟨w.heap.size, k, none⟩) (by simp) _).alloc (by simp; omega) _⟩
    case measure => (simp [RowKit.intOf]) <;> omega
   ·go_wp2
    go_roundw
    case rel => exact ⟨k + 1, by omega, by simp, GL.out _ ((hf.set k k).alloc _) (by omega), (hB.setCell (p := ⟨w.heap.size, k, none⟩) (by simp) _).alloc (by simp; omega) _⟩
    case measure => (simp [RowKit.intOf]) <;> omega
   ·go_wp2
    go_roundw
    case rel => exact ⟨k + 1, by omega, by simp, GL.out _ ((hf.set k k).alloc _) (by omega), (hB.setCell (p := ⟨w.heap.size, k, none⟩) (by simp) _).alloc (by simp; omega) _⟩
    case measure => (simp [RowKit.intOf]) <;> omega
   ·go_wp2_with fail
    obtain ⟨V, hV⟩ : ∃ V, V = ((wr.setCell ⟨w.heap.size, k, none⟩ (.int .i64 k)).alloc (.cells #[.int .i64 4, .int .u64 w0, .int .u64 w1, .int .u64 w2, .int .u64 w3, .int .i64 xa, .int .i64 xb, .int .i64 m, .int .i64 M, .int .i64 xn] 57)) := ⟨_, rfl⟩
    have X : NB ((wr.setCell ⟨w.heap.size, k, none⟩ (.int .i64 k)).alloc (.cells #[.int .i64 4, .int .u64 w0, .int .u64 w1, .int .u64 w2, .int .u64 w3, .int .i64 xa, .int .i64 xb, .int .i64 m, .int .i64 M, .int .i64 xn] 57)) wr.heap.size ⟨4, w0, w1, w2, w3, xa, xb, m, M, xn⟩ := by
     have := NB.new (wr.setCell ⟨w.heap.size, k, none⟩ (.int .i64 k)) ⟨4, w0, w1, w2, w3, xa, xb, m, M, xn⟩
     rwa [show (wr.setCell ⟨w.heap.size, k, none⟩ (.int .i64 k)).heap.size = wr.heap.size by simp] at this
    have R := (hf.set k k).alloc (.cells #[.int .i64 4, .int .u64 w0, .int .u64 w1, .int .u64 w2, .int .u64 w3, .int .i64 xa, .int .i64 xb, .int .i64 m, .int .i64 M, .int .i64 xn] 57)
    have bV : Below w.heap.size w ((wr.setCell ⟨w.heap.size, k, none⟩ (.int .i64 k)).alloc (.cells #[.int .i64 4, .int .u64 w0, .int .u64 w1, .int .u64 w2, .int .u64 w3, .int .i64 xa, .int .i64 xb, .int .i64 m, .int .i64 M, .int .i64 xn] 57)) := (hB.setCell (p := ⟨w.heap.size, k, none⟩) (by simp) _).alloc (by simp; omega) _
    rw [← hV] at X R bV ⊢
    clear hV d_ XH hfk hw
    have x5 : V.cell? ⟨wr.heap.size, 5, none⟩ = some (.int .i64 xa) := X.c 5
    have x6 : V.cell? ⟨wr.heap.size, 6, none⟩ = some (.int .i64 xb) := X.c 6
    have E2 := fun {c : Nat} => T.ends_two (l := fun i => xs[i]?) (b := c) yI hxn (by simp)
    simp only at E2
    by_cases Vu : k = 0
    ·subst Vu
     obtain rfl : r = false := HF.out 0 zb (fun ⟨c, h⟩ => by obtain ⟨c', h1, _⟩ := E2.1 h; omega)
     go_quiet (fail)
     go_wp2
     go_ret
     exact ⟨rfl, Go.below_drewN bV _⟩
    ·obtain ⟨p, rfl⟩ : ∃ p, k = p + 1 := ⟨k - 1, by omega⟩
     have z0 : ((p : Int) + 1 == 0) = false := by rw [beq_eq_false_iff_ne]; omega
     have z1 : IntKind.i64.wrap (p : Int) = p := wrap_small p (by omega)
     by_cases hb : xb = (p : Int)
     ·subst hb
      obtain ⟨c, hc, Wi⟩ := HG.out p (by omega)
      have rp := R.cell p (by omega)
      rw [if_neg (by omega), Wi] at rp
      by_cases hc0 : c = 0
      ·subst hc0
       obtain rfl : r = false := HF.out (p + 1) zb (fun ⟨q, h⟩ => by
        obtain ⟨c', h1, h2, h3, h4, h5, h6⟩ := E2.1 h
        have := T.Ends.uniq h3 hc
        omega)
       go_quiet (fail)
       go_wp2
       go_ret
       exact ⟨rfl, Go.below_drewN bV _⟩
      ·obtain ⟨q, rfl⟩ : ∃ q, c = q + 1 := ⟨c - 1, by omega⟩
       have hqp := hc.le
       have z2 : ((q : Int) + 1 == 0) = false := by rw [beq_eq_false_iff_ne]; omega
       have z3 : IntKind.i64.wrap (q : Int) = q := wrap_small q (by omega)
       by_cases ha : xa = (q : Int)
       ·subst ha
        have hq := hc.le
        obtain ⟨c2, vI, qh3⟩ := HG.out q (by omega)
        have rq := R.cell q (by omega)
        rw [if_neg (by omega), qh3] at rq
        have rk := R.cell (p + 1) zb
        have rz := R.fz (p + 1)
        go_quiet (fail)
        go_wp2
        go_roundw
        case rel =>
         refine ⟨p + 1 + 1, by omega, by simp, ⟨_, (jt.drewN R nq).set (p + 1) c2, fun j hj => ?_⟩, (Go.below_drewN bV _).setCell (p := ⟨w.heap.size, p + 1, none⟩) (by simp) _⟩
         by_cases e : j = p + 1
         ·subst e
          exact ⟨c2, E2.2 ⟨q + 1, by omega, by omega, hc, by omega, by omega, vI⟩, by simp⟩
         ·obtain ⟨z, hz, hfz⟩ := HG.out j (by omega)
          exact ⟨z, hz, by simp [e, hfz]⟩
        case measure => (simp [RowKit.intOf]) <;> omega
       ·have z4 : (xa != (q : Int)) = true := by simpa using ha
        obtain rfl : r = false := HF.out (p + 1) zb (fun ⟨z, h⟩ => by
         obtain ⟨c', h1, h2, h3, h4, h5, h6⟩ := E2.1 h
         have := T.Ends.uniq h3 hc
         omega)
        go_quiet (fail)
        go_wp2
        go_ret
        exact ⟨rfl, Go.below_drewN bV _⟩
     ·have z4 : (xb != (p : Int)) = true := by simpa using hb
      obtain rfl : r = false := HF.out (p + 1) zb (fun ⟨c, h⟩ => by
       obtain ⟨c', h1, h2, _⟩ := E2.1 h
       omega)
      go_quiet (fail)
      go_wp2
      go_ret
      exact ⟨rfl, Go.below_drewN bV _⟩
   ·go_wp2_with fail
    obtain ⟨V, hV⟩ : ∃ V, V = ((wr.setCell ⟨w.heap.size, k, none⟩ (.int .i64 k)).alloc (.cells #[.int .i64 5, .int .u64 w0, .int .u64 w1, .int .u64 w2, .int .u64 w3, .int .i64 xa, .int .i64 xb, .int .i64 m, .int .i64 M, .int .i64 xn] 57)) := ⟨_, rfl⟩
    have X : NB ((wr.setCell ⟨w.heap.size, k, none⟩ (.int .i64 k)).alloc (.cells #[.int .i64 5, .int .u64 w0, .int .u64 w1, .int .u64 w2, .int .u64 w3, .int .i64 xa, .int .i64 xb, .int .i64 m, .int .i64 M, .int .i64 xn] 57)) wr.heap.size ⟨5, w0, w1, w2, w3, xa, xb, m, M, xn⟩ := by
     have := NB.new (wr.setCell ⟨w.heap.size, k, none⟩ (.int .i64 k)) ⟨5, w0, w1, w2, w3, xa, xb, m, M, xn⟩
     rwa [show (wr.setCell ⟨w.heap.size, k, none⟩ (.int .i64 k)).heap.size = wr.heap.size by simp] at this
    have R := (hf.set k k).alloc (.cells #[.int .i64 5, .int .u64 w0, .int .u64 w1, .int .u64 w2, .int .u64 w3, .int .i64 xa, .int .i64 xb, .int .i64 m, .int .i64 M, .int .i64 xn] 57)
    have bV : Below w.heap.size w ((wr.setCell ⟨w.heap.size, k, none⟩ (.int .i64 k)).alloc (.cells #[.int .i64 5, .int .u64 w0, .int .u64 w1, .int .u64 w2, .int .u64 w3, .int .i64 xa, .int .i64 xb, .int .i64 m, .int .i64 M, .int .i64 xn] 57)) := (hB.setCell (p := ⟨w.heap.size, k, none⟩) (by simp) _).alloc (by simp; omega) _
    rw [← hV] at X R bV ⊢
    clear hV d_ XH hfk hw
    have x5 : V.cell? ⟨wr.heap.size, 5, none⟩ = some (.int .i64 xa) := X.c 5
    have x6 : V.cell? ⟨wr.heap.size, 6, none⟩ = some (.int .i64 xb) := X.c 6
    have E2 := fun {c : Nat} => T.ends_two (l := fun i => xs[i]?) (b := c) yI hxn (by simp)
    simp only at E2
    by_cases Vu : k = 0
    ·subst Vu
     obtain rfl : r = false := HF.out 0 zb (fun ⟨c, h⟩ => by obtain ⟨c', h1, _⟩ := E2.1 h; omega)
     go_quiet (fail)
     go_wp2
     go_ret
     exact ⟨rfl, Go.below_drewN bV _⟩
    ·obtain ⟨p, rfl⟩ : ∃ p, k = p + 1 := ⟨k - 1, by omega⟩
     have z0 : ((p : Int) + 1 == 0) = false := by rw [beq_eq_false_iff_ne]; omega
     have z1 : IntKind.i64.wrap (p : Int) = p := wrap_small p (by omega)
     by_cases hb : xb = (p : Int)
     ·subst hb
      obtain ⟨c, hc, Wi⟩ := HG.out p (by omega)
      have rp := R.cell p (by omega)
      rw [if_neg (by omega), Wi] at rp
      by_cases hc0 : c = 0
      ·subst hc0
       obtain rfl : r = false := HF.out (p + 1) zb (fun ⟨q, h⟩ => by
        obtain ⟨c', h1, h2, h3, h4, h5, h6⟩ := E2.1 h
        have := T.Ends.uniq h3 hc
        omega)
       go_quiet (fail)
       go_wp2
       go_ret
       exact ⟨rfl, Go.below_drewN bV _⟩
      ·obtain ⟨q, rfl⟩ : ∃ q, c = q + 1 := ⟨c - 1, by omega⟩
       have hqp := hc.le
       have z2 : ((q : Int) + 1 == 0) = false := by rw [beq_eq_false_iff_ne]; omega
       have z3 : IntKind.i64.wrap (q : Int) = q := wrap_small q (by omega)
       by_cases ha : xa = (q : Int)
       ·subst ha
        have hq := hc.le
        obtain ⟨c2, vI, qh3⟩ := HG.out q (by omega)
        have rq := R.cell q (by omega)
        rw [if_neg (by omega), qh3] at rq
        have rk := R.cell (p + 1) zb
        have rz := R.fz (p + 1)
        go_quiet (fail)
        go_wp2
        go_roundw
        case rel =>
         refine ⟨p + 1 + 1, by omega, by simp, ⟨_, (jt.drewN R nq).set (p + 1) c2, fun j hj => ?_⟩, (Go.below_drewN bV _).setCell (p := ⟨w.heap.size, p + 1, none⟩) (by simp) _⟩
         by_cases e : j = p + 1
         ·subst e
          exact ⟨c2, E2.2 ⟨q + 1, by omega, by omega, hc, by omega, by omega, vI⟩, by simp⟩
         ·obtain ⟨z, hz, hfz⟩ := HG.out j (by omega)
          exact ⟨z, hz, by simp [e, hfz]⟩
        case measure => (simp [RowKit.intOf]) <;> omega
       ·have z4 : (xa != (q : Int)) = true := by simpa using ha
        obtain rfl : r = false := HF.out (p + 1) zb (fun ⟨z, h⟩ => by
         obtain ⟨c', h1, h2, h3, h4, h5, h6⟩ := E2.1 h
         have := T.Ends.uniq h3 hc
         omega)
        go_quiet (fail)
        go_wp2
        go_ret
        exact ⟨rfl, Go.below_drewN bV _⟩
     ·have z4 : (xb != (p : Int)) = true := by simpa using hb
      obtain rfl : r = false := HF.out (p + 1) zb (fun ⟨c, h⟩ => by
       obtain ⟨c', h1, h2, _⟩ := E2.1 h
       omega)
      go_quiet (fail)
      go_wp2
      go_ret
      exact ⟨rfl, Go.below_drewN bV _⟩
   ·have E1 := fun {c : Nat} => T.ends_times (l := fun i => xs[i]?) (b := c) yI hxn rfl
    simp only at E1
    by_cases Vu : k = 0
    ·subst Vu
     obtain rfl : r = false := HF.out 0 zb (fun ⟨c, h⟩ => by obtain ⟨h1, _⟩ := E1.1 h; omega)
     simp only [Nat.zero_mul, Nat.add_zero] at d_
     go_wp2
     go_ret
     exact ⟨rfl, (hB.setCell (p := ⟨w.heap.size, 0, none⟩) (by simp) _).alloc (by simp; omega) _⟩
    ·obtain ⟨p, rfl⟩ : ∃ p, k = p + 1 := ⟨k - 1, by omega⟩
     have z0 : ((p : Int) + 1 == 0) = false := by rw [beq_eq_false_iff_ne]; omega
     have z1 : IntKind.i64.wrap (p : Int) = p := wrap_small p (by omega)
     by_cases ha : xa = (p : Int)
     ·subst ha
      obtain ⟨c, hc, Wi⟩ := HG.out p (by omega)
      have rp := hf.cell p (by omega)
      rw [Wi] at rp
      go_wp2
      go_roundw
      case rel =>
       refine ⟨p + 1 + 1, by omega, by simp, ⟨_, ((hf.set (p + 1) ((p : Int) + 1)).set (p + 1) c).alloc _, fun j hj => ?_⟩, ((hB.setCell (p := ⟨w.heap.size, p + 1, none⟩) (by simp) _).setCell (p := ⟨w.heap.size, p + 1, none⟩) (by simp) _).alloc (by simp; omega) _⟩
       by_cases e : j = p + 1
       ·subst e
        exact ⟨c, E1.2 ⟨by omega, by omega, hc⟩, by simp⟩
       ·obtain ⟨z, hz, hfz⟩ := HG.out j (by omega)
        exact ⟨z, hz, by simp [e, hfz]⟩
      case measure => (simp [RowKit.intOf]) <;> omega
     ·have z4 : (xa != (p : Int)) = true := by simpa using ha
      obtain rfl : r = false := HF.out (p + 1) zb (fun ⟨c, h⟩ => by
       obtain ⟨h1, h2, _⟩ := E1.1 h
       omega)
      go_wp2
      go_ret
      exact ⟨rfl, (hB.setCell (p := ⟨w.heap.size, p + 1, none⟩) (by simp) _).alloc (by simp; omega) _⟩
   ·have E1 := fun {c : Nat} => T.ends_group (l := fun i => xs[i]?) (b := c) yI hxn rfl
    simp only at E1
    by_cases Vu : k = 0
    ·subst Vu
     obtain rfl : r = false := HF.out 0 zb (fun ⟨c, h⟩ => by obtain ⟨h1, _⟩ := E1.1 h; omega)
     simp only [Nat.zero_mul, Nat.add_zero] at d_
     go_wp2
     go_ret
     exact ⟨rfl, (hB.setCell (p := ⟨w.heap.size, 0, none⟩) (by simp) _).alloc (by simp; omega) _⟩
    ·obtain ⟨p, rfl⟩ : ∃ p, k = p + 1 := ⟨k - 1, by omega⟩
     have z0 : ((p : Int) + 1 == 0) = false := by rw [beq_eq_false_iff_ne]; omega
     have z1 : IntKind.i64.wrap (p : Int) = p := wrap_small p (by omega)
     by_cases ha : xa = (p : Int)
     ·subst ha
      obtain ⟨c, hc, Wi⟩ := HG.out p (by omega)
      have rp := hf.cell p (by omega)
      rw [Wi] at rp
      go_wp2
      go_roundw
      case rel =>
       refine ⟨p + 1 + 1, by omega, by simp, ⟨_, ((hf.set (p + 1) ((p : Int) + 1)).set (p + 1) c).alloc _, fun j hj => ?_⟩, ((hB.setCell (p := ⟨w.heap.size, p + 1, none⟩) (by simp) _).setCell (p := ⟨w.heap.size, p + 1, none⟩) (by simp) _).alloc (by simp; omega) _⟩
       by_cases e : j = p + 1
       ·subst e
        exact ⟨c, E1.2 ⟨by omega, by omega, hc⟩, by simp⟩
       ·obtain ⟨z, hz, hfz⟩ := HG.out j (by omega)
        exact ⟨z, hz, by simp [e, hfz]⟩
      case measure => (simp [RowKit.intOf]) <;> omega
     ·have z4 : (xa != (p : Int)) = true := by simpa using ha
      obtain rfl : r = false := HF.out (p + 1) zb (fun ⟨c, h⟩ => by
       obtain ⟨h1, h2, _⟩ := E1.1 h
       omega)
      go_wp2
      go_ret
      exact ⟨rfl, (hB.setCell (p := ⟨w.heap.size, p + 1, none⟩) (by simp) _).alloc (by simp; omega) _⟩
   ·go_wp2
    go_roundw
    case rel => exact ⟨k + 1, by omega, by simp, GL.out _ ((hf.set k k).alloc _) (by omega), (hB.setCell (p := ⟨w.heap.size, k, none⟩) (by simp) _).alloc (by simp; omega) _⟩
    case measure => (simp [RowKit.intOf]) <;> omega
  ·obtain rfl : k = n := by omega
   obtain ⟨p, rfl⟩ : ∃ p, k = p + 1 := ⟨k - 1, by omega⟩
   obtain ⟨c, hc, Wi⟩ := HG.out p (by omega)
   have rp := hf.cell p (by omega)
   rw [Wi] at rp
   have z1 : IntKind.i64.wrap (p : Int) = p := wrap_small p (by omega)
   by_cases hc0 : c = 0
   ·subst hc0
    obtain rfl : r = true := HR.out.2 hc
    go_wp2
    go_ret
    exact ⟨rfl, hB⟩
   ·have z2 : ((c : Int) == 0) = false := by rw [beq_eq_false_iff_ne]; omega
    obtain rfl : r = false := by
     cases r
     ·rfl
     ·exact absurd (T.Ends.uniq hc (HR.out.1 rfl)) hc0
    go_wp2
    go_ret
    exact ⟨rfl, hB⟩
def zW (xs : List Nd) (a : Int) : Int := match xs[a.toNat]? with
 | some y => y.kind
 | none => 0
def Zj (xs : List Nd) (x : Nd) : Prop :=
 if x.kind = 0 then xs.length = 1
 else if x.kind = 4 then zW xs x.a ≠ 4 ∧ zW xs x.a ≠ 5 ∧ zW xs x.b ≠ 5
 else if x.kind = 5 then zW xs x.a ≠ 5
 else if x.kind = 6 then zW xs x.a = 1 ∨ zW xs x.a = 7 ∨ zW xs x.a = 8
 else True
def pIn (n : Nat) (x : Nd) : Prop :=
 ((x.kind = 4 ∨ x.kind = 5) → ∃ p q : Nat, x.a = p ∧ x.b = q ∧ p < n ∧ q < n) ∧ ((x.kind = 6 ∨ x.kind = 7) → ∃ p : Nat, x.a = p ∧ p < n)
theorem qa0 {w : World} {b o n : Nat} {xs : List Nd} (hx : qn w b o xs) (hn : xs.length = n) (p : Nat) (hp : p < n) : w.cell? ⟨b, o + p * 10, none⟩ = some (.int .i64 (zW xs p)) := by
 have e : xs[p]? = some (xs[p]'(by omega)) := List.getElem?_eq_getElem (by omega)
 have := hx.cell p _ e 0 _ rfl
 simp only [zW, Int.toNat_natCast, e]
 exact this
theorem JD (b o n cap : Nat) (xs : List Nd) (hn : xs.length = n) (h1 : 1 ≤ n) (h2 : n ≤ 120) (Qp : ∀ (i : Nat) (x : Nd), xs[i]? = some x → qY x = true) (VJ : ∀ (i : Nat) (x : Nd), xs[i]? = some x → pIn n x) (r : Bool) (hr : r = true ↔ ∀ (i : Nat) (x : Nd), xs[i]? = some x → Zj xs x) (w : World) (hx : qn w b o xs) :
  Calls prog 56 #[.slice (some ⟨b, o, none⟩) n cap] w fun e w' => e = .returned (.bool r) ∧ Below w.heap.size w w' := by
 have HF : ∀ (k : Nat) (x : Nd), xs[k]? = some x → ¬ Zj xs x → r = false := fun k x hk h => by
  cases r
  ·rfl
  ·exact absurd (hr.1 rfl k x hk) h
 have HF := ξ HF; have HN := ξ Qp; have HI := ξ VJ; have HR := ξ hr
 clear Qp hr VJ
 go_enter func56, ntmps56
 go_wp2
 have lb := hx.lt
 go_loopw [9] (fun i wr => ∃ k : Nat, k ≤ n ∧ i = .int .i64 k ∧ (∀ (j : Nat) (x : Nd), j < k → xs[j]? = some x → Zj xs x) ∧ Below w.heap.size w wr) (fun i _ => n - (RowKit.intOf i).toNat)
 case atStart =>
  exact ⟨0, by omega, rfl, fun j x hj => by omega, Below.refl _ _⟩
 case round =>
  obtain ⟨k, hk, rfl, hg, hB⟩ := hrel
  have HG := ξ hg
  clear hg
  by_cases zb : k < n
  ·obtain ⟨x, yI⟩ : ∃ x, xs[k]? = some x := ⟨xs[k]'(by omega), List.getElem?_eq_getElem (by omega)⟩
   have hxn := HN.out k x yI
   have hxi := HI.out k x yI
   have gl : Zj xs x → ∀ (j : Nat) (y : Nd), j < k + 1 → xs[j]? = some y → Zj xs y := fun h j y hj hy => by
    by_cases e : j = k
    ·subst e; rw [yI] at hy; cases hy; exact h
    ·exact HG.out j y (by omega) hy
   have GL := ξ gl
   have GF := ξ (HF.out k x yI)
   clear gl HG HF HN HI
   have hw := hx.below hB hx.lt
   have d := hw.cell k x yI
   have KA := ξ (fun p hp => qa0 hw hn p hp)
   obtain ⟨kd, w0, w1, w2, w3, xa, xb, m, M, xn⟩ := x
   have ks := KC hxn
   simp only at ks
   have d_ := zB d
   clear d hw
   have lB := hB.size
   unfold pIn at hxi
   simp only at hxi
   obtain ⟨UK, Jh⟩ := hxi
   rcases ks with rfl | rfl | rfl | rfl | rfl | rfl | rfl | rfl | rfl
   ·by_cases e : n = 1
    ·subst e
     go_wp2
     go_roundw
     case rel => exact ⟨k + 1, by omega, by simp, GL.out (by simp [Zj, hn]), hB.alloc (by omega) _⟩
     case measure => (simp [RowKit.intOf]) <;> omega
    ·have z : ((n : Int) == 1) = false := by rw [beq_eq_false_iff_ne]; omega
     obtain rfl : r = false := GF.out (by simp [Zj, hn, e])
     go_wp2
     go_ret
     exact ⟨rfl, hB.alloc (by omega) _⟩
   ·go_wp2
    go_roundw
    case rel => exact ⟨k + 1, by omega, by simp, GL.out (by simp [Zj]), hB.alloc (by omega) _⟩
    case measure => (simp [RowKit.intOf]) <;> omega
   ·go_wp2
    go_roundw
    case rel => exact ⟨k + 1, by omega, by simp, GL.out (by simp [Zj]), hB.alloc (by omega) _⟩
    case measure => (simp [RowKit.intOf]) <;> omega
   ·go_wp2
    go_roundw
    case rel => exact ⟨k + 1, by omega, by simp, GL.out (by simp [Zj]), hB.alloc (by omega) _⟩
    case measure => (simp [RowKit.intOf]) <;> omega
   ·obtain ⟨p, q, rfl, rfl, hp, hq⟩ := UK (by simp)
    have ca := KA.out p hp
    have cb := KA.out q hq
    obtain ⟨ya, hya⟩ : ∃ y, y = zW xs p := ⟨_, rfl⟩
    obtain ⟨yb, hyb⟩ : ∃ y, y = zW xs q := ⟨_, rfl⟩
    rw [← hya] at ca
    rw [← hyb] at cb
    have HYA := ξ hya; have HYB := ξ hyb
    clear hya hyb
    have ca := qa (.cells #[.int .i64 4, .int .u64 w0, .int .u64 w1, .int .u64 w2, .int .u64 w3, .int .i64 p, .int .i64 q, .int .i64 m, .int .i64 M, .int .i64 xn] 57) ca
    have cb := qa (.cells #[.int .i64 4, .int .u64 w0, .int .u64 w1, .int .u64 w2, .int .u64 w3, .int .i64 p, .int .i64 q, .int .i64 m, .int .i64 M, .int .i64 xn] 57) cb
    by_cases kF : ya = 4
    ·subst kF
     obtain rfl : r = false := GF.out (by simp [Zj, ← HYA.out])
     go_wp2
     go_ret
     exact ⟨rfl, hB.alloc (by omega) _⟩
    by_cases vv : ya = 5
    ·subst vv
     obtain rfl : r = false := GF.out (by simp [Zj, ← HYA.out])
     go_wp2
     go_ret
     exact ⟨rfl, hB.alloc (by omega) _⟩
    have z1 : (ya == 4) = false := by rw [beq_eq_false_iff_ne]; exact kF
    have z2 : (ya == 5) = false := by rw [beq_eq_false_iff_ne]; exact vv
    have y1 : (ya != 4) = true := by simpa using kF
    have y2 : (ya != 5) = true := by simpa using vv
    by_cases hz3 : yb = 5
    ·subst hz3
     obtain rfl : r = false := GF.out (by simp [Zj, ← HYB.out])
     go_wp2
     go_ret
     exact ⟨rfl, hB.alloc (by omega) _⟩
    have y3 : (yb != 5) = true := by simpa using hz3
    go_wp2
    go_roundw
    case rel => exact ⟨k + 1, by omega, by simp, GL.out (by simp [Zj, ← HYA.out, ← HYB.out, kF, vv, hz3]), hB.alloc (by omega) _⟩
    case measure => (simp [RowKit.intOf]) <;> omega
   ·obtain ⟨p, q, rfl, rfl, hp, hq⟩ := UK (by simp)
    have ca := KA.out p hp
    have cb := KA.out q hq
    obtain ⟨ya, hya⟩ : ∃ y, y = zW xs p := ⟨_, rfl⟩
    obtain ⟨yb, hyb⟩ : ∃ y, y = zW xs q := ⟨_, rfl⟩
    rw [← hya] at ca
    rw [← hyb] at cb
    have HYA := ξ hya; have HYB := ξ hyb
    clear hya hyb
    have ca := qa (.cells #[.int .i64 5, .int .u64 w0, .int .u64 w1, .int .u64 w2, .int .u64 w3, .int .i64 p, .int .i64 q, .int .i64 m, .int .i64 M, .int .i64 xn] 57) ca
    have cb := qa (.cells #[.int .i64 5, .int .u64 w0, .int .u64 w1, .int .u64 w2, .int .u64 w3, .int .i64 p, .int .i64 q, .int .i64 m, .int .i64 M, .int .i64 xn] 57) cb
    by_cases vv : ya = 5
    ·subst vv
     obtain rfl : r = false := GF.out (by simp [Zj, ← HYA.out])
     go_wp2
     go_ret
     exact ⟨rfl, hB.alloc (by omega) _⟩
    have y2 : (ya != 5) = true := by simpa using vv
    go_wp2
    go_roundw
    case rel => exact ⟨k + 1, by omega, by simp, GL.out (by simp [Zj, ← HYA.out, vv]), hB.alloc (by omega) _⟩
    case measure => (simp [RowKit.intOf]) <;> omega
   ·obtain ⟨p, rfl, hp⟩ := Jh (by simp)
    have ca := KA.out p hp
    obtain ⟨ya, hya⟩ : ∃ y, y = zW xs p := ⟨_, rfl⟩
    rw [← hya] at ca
    have HYA := ξ hya
    clear hya
    have ca := qa (.cells #[.int .i64 6, .int .u64 w0, .int .u64 w1, .int .u64 w2, .int .u64 w3, .int .i64 p, .int .i64 xb, .int .i64 m, .int .i64 M, .int .i64 xn] 57) ca
    by_cases kF : ya = 1
    ·subst kF
     go_wp2
     go_roundw
     case rel => exact ⟨k + 1, by omega, by simp, GL.out (by simp [Zj, ← HYA.out]), hB.alloc (by omega) _⟩
     case measure => (simp [RowKit.intOf]) <;> omega
    have z1 : (ya == 1) = false := by rw [beq_eq_false_iff_ne]; exact kF
    by_cases hz7 : ya = 7
    ·subst hz7
     go_wp2
     go_roundw
     case rel => exact ⟨k + 1, by omega, by simp, GL.out (by simp [Zj, ← HYA.out]), hB.alloc (by omega) _⟩
     case measure => (simp [RowKit.intOf]) <;> omega
    have z7 : (ya == 7) = false := by rw [beq_eq_false_iff_ne]; exact hz7
    by_cases hz8 : ya = 8
    ·subst hz8
     go_wp2
     go_roundw
     case rel => exact ⟨k + 1, by omega, by simp, GL.out (by simp [Zj, ← HYA.out]), hB.alloc (by omega) _⟩
     case measure => (simp [RowKit.intOf]) <;> omega
    have z8 : (ya == 8) = false := by rw [beq_eq_false_iff_ne]; exact hz8
    obtain rfl : r = false := GF.out (by simp [Zj, ← HYA.out, kF, hz7, hz8])
    go_wp2
    go_ret
    exact ⟨rfl, hB.alloc (by omega) _⟩
   ·go_wp2
    go_roundw
    case rel => exact ⟨k + 1, by omega, by simp, GL.out (by simp [Zj]), hB.alloc (by omega) _⟩
    case measure => (simp [RowKit.intOf]) <;> omega
   ·go_wp2
    go_roundw
    case rel => exact ⟨k + 1, by omega, by simp, GL.out (by simp [Zj]), hB.alloc (by omega) _⟩
    case measure => (simp [RowKit.intOf]) <;> omega
  ·obtain rfl : k = n := by omega
   obtain rfl : r = true := HR.out.2 fun i x hi => HG.out i x (by have := (List.getElem?_eq_some_iff.1 hi).1; omega) hi
   go_wp2
   go_ret
   exact ⟨rfl, hB⟩
end Go.Proofs.YtjgegohidhdbpaaGreatDoor
