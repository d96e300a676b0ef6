/- slices.Equal of nodes: the walk. -/
import Derived.Test.YtkcbknfhckomcaaGreatDoorYRxK
import Derived.Test.YtkcbknfhckomcaaGreatDoorYBrN
import Derived.BigQuiet
import Derived.Test.YtkcbknfhckomcaaGreatDoorYRxU
import Derived.Test.YtkcbknfhckomcaaGreatDoorYSetH
import Derived.Test.YtkcbknfhckomcaaGreatDoorYShelf
import Derived.Lib.AppendIntMem
import Derived.Lib.ItoaLen
import Derived.Deep.AppendLies
import Derived.Lib.FrozenHead2
import Derived.Lib.OthersKept
set_option linter.unusedVariables false
set_option linter.unusedSimpArgs false
set_option maxRecDepth 100000
set_option maxHeartbeats 40000000
namespace Go.Proofs.YtkcbknfhckomcaaGreatDoor
open Go.RowKit
theorem equal_in (b o cap b' o' cap' n : Nat) (xs ys : List Nd) (hlx : xs.length = n) (hly : ys.length = n) (hn : n ≤ 1000) (hfx : ∀ (i : Nat) (x : Nd), xs[i]? = some x → x.Fits) (hfy : ∀ (i : Nat) (x : Nd), ys[i]? = some x → x.Fits) (w : World) (hx : NodesAt w b o xs) (hy : NodesAt w b' o' ys) :
  Calls Tryz.prog 13 #[.slice (some ⟨b, o, none⟩) n cap, .slice (some ⟨b', o', none⟩) n cap'] w fun e w' => e = .returned (.bool (decide (xs = ys))) ∧ Below w.heap.size w w' := by
 have HFX := Lib.hid hfx
 have HFY := Lib.hid hfy
 obtain ⟨r, hr⟩ : ∃ r, r = decide (xs = ys) := ⟨_, rfl⟩
 rw [← hr]
 have HR := Lib.hid hr
 clear hfx hfy hr
 go_enter Tryz.func13, Tryz.ntmps13
 go_wp2
 go_loopw [13] (fun i wr => ∃ k : Nat, k ≤ n ∧ i = .int .i64 k ∧ (∀ j, j < k → xs[j]? = ys[j]?) ∧ Below w.heap.size w wr) (fun i _ => n - (RowKit.intOf i).toNat)
 case atStart => exact ⟨0, by omega, rfl, fun j hj => absurd hj (by omega), Below.refl _ _⟩
 case round =>
  obtain ⟨k, hk, rfl, hg, hB⟩ := hrel
  by_cases hlt : k < n
  ·obtain ⟨x, hxk⟩ : ∃ x, xs[k]? = some x := ⟨xs[k]'(by omega), List.getElem?_eq_getElem (by omega)⟩
   obtain ⟨y, hyk⟩ : ∃ x, ys[k]? = some x := ⟨ys[k]'(by omega), List.getElem?_eq_getElem (by omega)⟩
   have hq := fun W => eq_nd x y (HFX.out k x hxk) (HFY.out k y hyk) W
   have hgl : x = y → ∀ j, j < k + 1 → xs[j]? = ys[j]? := fun e j hj => by
    by_cases e2 : j = k
    ·subst e2; rw [hxk, hyk, e]
    ·exact hg j (by omega)
   have hgf : x ≠ y → r = false := fun e => by
    rw [HR.out, decide_eq_false_iff_not]
    intro e2
    rw [e2, hyk] at hxk
    exact e (Option.some.inj hxk).symm
   have d := (hx.below hB hx.lt).cell k x hxk
   have e := (hy.below hB hy.lt).cell k y hyk
   have lB := hB.size
   obtain ⟨kd, w0, w1, w2, w3, xa, xb, m, M, xn⟩ := x
   obtain ⟨kd', w0', w1', w2', w3', xa', xb', m', M', xn'⟩ := y
   have d0 : wr.cell? ⟨b, o + k * 10, none⟩ = some (.int .i64 kd) := d 0 _ rfl
   have d1 : wr.cell? ⟨b, o + k * 10 + 1, none⟩ = some (.int .u64 w0) := d 1 _ rfl
   have d2 : wr.cell? ⟨b, o + k * 10 + 2, none⟩ = some (.int .u64 w1) := d 2 _ rfl
   have d3 : wr.cell? ⟨b, o + k * 10 + 3, none⟩ = some (.int .u64 w2) := d 3 _ rfl
   have d4 : wr.cell? ⟨b, o + k * 10 + 4, none⟩ = some (.int .u64 w3) := d 4 _ rfl
   have d5 : wr.cell? ⟨b, o + k * 10 + 5, none⟩ = some (.int .i64 xa) := d 5 _ rfl
   have d6 : wr.cell? ⟨b, o + k * 10 + 6, none⟩ = some (.int .i64 xb) := d 6 _ rfl
   have d7 : wr.cell? ⟨b, o + k * 10 + 7, none⟩ = some (.int .i64 m) := d 7 _ rfl
   have d8 : wr.cell? ⟨b, o + k * 10 + 8, none⟩ = some (.int .i64 M) := d 8 _ rfl
   have d9 : wr.cell? ⟨b, o + k * 10 + 9, none⟩ = some (.int .i64 xn) := d 9 _ rfl
   have e0 : wr.cell? ⟨b', o' + k * 10, none⟩ = some (.int .i64 kd') := e 0 _ rfl
   have e1 : wr.cell? ⟨b', o' + k * 10 + 1, none⟩ = some (.int .u64 w0') := e 1 _ rfl
   have e2 : wr.cell? ⟨b', o' + k * 10 + 2, none⟩ = some (.int .u64 w1') := e 2 _ rfl
   have e3 : wr.cell? ⟨b', o' + k * 10 + 3, none⟩ = some (.int .u64 w2') := e 3 _ rfl
   have e4 : wr.cell? ⟨b', o' + k * 10 + 4, none⟩ = some (.int .u64 w3') := e 4 _ rfl
   have e5 : wr.cell? ⟨b', o' + k * 10 + 5, none⟩ = some (.int .i64 xa') := e 5 _ rfl
   have e6 : wr.cell? ⟨b', o' + k * 10 + 6, none⟩ = some (.int .i64 xb') := e 6 _ rfl
   have e7 : wr.cell? ⟨b', o' + k * 10 + 7, none⟩ = some (.int .i64 m') := e 7 _ rfl
   have e8 : wr.cell? ⟨b', o' + k * 10 + 8, none⟩ = some (.int .i64 M') := e 8 _ rfl
   have e9 : wr.cell? ⟨b', o' + k * 10 + 9, none⟩ = some (.int .i64 xn') := e 9 _ rfl
   clear d e hxk hyk hg
   unfold Nd.v Nd.cells at hq
   dsimp only at hq
   have HGL := Lib.hid hgl
   have HGF := Lib.hid hgf
   clear hgl hgf HR HFX HFY
   by_cases hxy : (⟨kd, w0, w1, w2, w3, xa, xb, m, M, xn⟩ : Nd) = ⟨kd', w0', w1', w2', w3', xa', xb', m', M', xn'⟩
   ·rw [decide_eq_true hxy] at hq
    have HG := Lib.hid (HGL.out hxy)
    clear hxy HGL HGF
    go_wp2_with fail
    go_quiet (fail)
    go_wp2
    go_roundw
    case rel => exact ⟨k + 1, by omega, by simp, HG.out, Go.below_drewN hB _⟩
    case measure => (simp [RowKit.intOf]) <;> omega
   ·rw [decide_eq_false hxy] at hq
    obtain rfl := HGF.out hxy
    clear hxy HGL HGF
    go_wp2_with fail
    go_quiet (fail)
    go_wp2
    go_ret
    exact ⟨rfl, Go.below_drewN hB _⟩
  ·obtain rfl : k = n := by omega
   obtain rfl : r = true := by
    rw [HR.out, decide_eq_true_iff]
    apply List.ext_getElem?
    intro i
    rcases Nat.lt_or_ge i k with h | h
    ·exact hg i h
    ·rw [List.getElem?_eq_none (by omega), List.getElem?_eq_none (by omega)]
   clear HR HFX HFY hg
   go_wp2
   go_ret
   exact ⟨rfl, hB⟩
theorem equal_out (p q : Option Addr) (n m cap cap' : Nat) (hne : n ≠ m) (hn : n < 9223372036854775807) (hm : m < 9223372036854775807) (w : World) :
  Calls Tryz.prog 13 #[.slice p n cap, .slice q m cap'] w fun e w' => e = .returned (.bool false) ∧ Below w.heap.size w w' := by
 have h1 : ((n : Int) == (m : Int)) = false := by rw [beq_eq_false_iff_ne]; omega
 have h2 : ((n : Int) != (m : Int)) = true := by rw [bne_iff_ne]; omega
 clear hne
 go_enter Tryz.func13, Tryz.ntmps13
 go_wp2
 go_ret
 exact ⟨rfl, Below.refl _ _⟩
theorem equal_nil (p q : Option Addr) (cap cap' : Nat) (w : World) :
  Calls Tryz.prog 13 #[.slice p 0 cap, .slice q 0 cap'] w fun e w' => e = .returned (.bool true) ∧ Below w.heap.size w w' := by
 go_enter Tryz.func13, Tryz.ntmps13
 go_wp2
 go_loopw [13] (fun i wr => i = .int .i64 0 ∧ Below w.heap.size w wr) (fun i _ => 0)
 case atStart => exact ⟨rfl, Below.refl _ _⟩
 case round =>
  obtain ⟨rfl, hB⟩ := hrel
  go_wp2
  go_ret
  exact ⟨rfl, hB⟩
theorem equal_c (p q : Option Addr) (n m cap cap' : Nat) (xs ys : List Nd) (hn : n ≤ 1000) (w : World) (hx : Nodes w p n xs) (hy : Nodes w q m ys) :
  Calls Tryz.prog 13 #[.slice p n cap, .slice q m cap'] w fun e w' => e = .returned (.bool (decide (xs = ys))) ∧ Below w.heap.size w w' := by
 by_cases hnm : n = m
 ·subst hnm
  by_cases h1 : 1 ≤ n
  ·obtain ⟨b, o, rfl⟩ := hx.ptr h1
   obtain ⟨b', o', rfl⟩ := hy.ptr h1
   exact equal_in b o cap b' o' cap' n xs ys hx.len hy.len hn hx.fits hy.fits w (hx.at' h1 b o rfl) (hy.at' h1 b' o' rfl)
  ·obtain rfl : n = 0 := by omega
   have e1 := List.eq_nil_of_length_eq_zero hx.len
   have e2 := List.eq_nil_of_length_eq_zero hy.len
   subst e1; subst e2
   exact equal_nil p q cap cap' w
 ·have hne : xs ≠ ys := fun e => hnm (by rw [← hx.len, ← hy.len, e])
  rw [decide_eq_false hne]
  exact equal_out p q n m cap cap' hnm hx.small hy.small w
end Go.Proofs.YtkcbknfhckomcaaGreatDoor
namespace Go.Proofs.YtkcbknfhckomcaaGreatDoor
open Go.RowKit Go.Lib
structure Fit3 (w : World) : Prop where
 fit : Fit w
 pow : Lib.TabIs Tryz.prog w "internal/strconv.uint64pow10" .u64 Lib.pow10Tab
theorem Fit3.below {w w' : World} (h : Fit3 w) (hB : Below w.heap.size w w') : Fit3 w' := ⟨h.fit.below hB, Lib.tabBelow_of_tabIs h.pow w' hB⟩
theorem itoa_c (n : Int) (h0 : -9223372036854775808 ≤ n) (h1 : n ≤ 9223372036854775807) (w : World) (h : Fit3 w) :
  Calls Tryz.prog 28 #[.int .i64 n] w fun e w' => e = .returned (.string ⟨(itoa n).toArray⟩) ∧ Below w.heap.size w w' := by
 refine (Tryz.strconv_Itoa n h0 h1 w h.pow).mono ?_
 rintro e w' ⟨rfl, k, os, rfl⟩
 exact ⟨rfl, Lib.below_grow _ _ (Nat.le_refl _) k os⟩
end Go.Proofs.YtkcbknfhckomcaaGreatDoor
namespace Go.Proofs.YtkcbknfhckomcaaGreatDoor
open Go.Lib
def T.groups : T → Nat
 | .leaf _ => 0
 | .two _ a b => a.groups + b.groups
 | .times _ _ t => t.groups
 | .group _ t => t.groups + 1
end Go.Proofs.YtkcbknfhckomcaaGreatDoor
namespace Go.Proofs.YtkcbknfhckomcaaGreatDoor
open Go.Lib
def T.refs : T → Nat
 | .leaf x => if x.kind = 8 then 1 else 0
 | .two _ a b => a.refs + b.refs
 | .times _ _ t => t.refs
 | .group _ t => t.refs
end Go.Proofs.YtkcbknfhckomcaaGreatDoor
namespace Go.Proofs.YtkcbknfhckomcaaGreatDoor
open Go.RowKit
theorem sizeSB : (Tryz.prog.info? 127).map (fun i => i.size) = some 2 := by kernel_rfl
theorem check_fresh (b : Nat) (w : World) (h0 : w.cell? ⟨b, 0, none⟩ = some (.pointer none)) (hsh : w.shape? b = some (127, 2)) (hfz : w.frozen? ⟨b, 0, none⟩ = false) :
  Calls Tryz.prog 115 #[.pointer (some ⟨b, 0, none⟩)] w fun e w' => e = .returned (.tuple #[]) ∧ w' = w.setCell ⟨b, 0, none⟩ (.pointer (some ⟨b, 0, none⟩)) := by
 obtain ⟨j, hj, hjs⟩ := Option.map_eq_some_iff.1 sizeSB
 go_enter Tryz.func115, Tryz.ntmps115
 go_wp2
 rw [Lib.run_to_unsafe w ⟨b, 0, none⟩ Tryz.underlying125 Tryz.underlying163 hj (by rw [hjs]; decide) hsh (Nat.zero_lt_succ 1)]
 simp only [Result.andThen]
 rw [Oper.upon_value]
 go_wp2
 rw [run_callFunc_extern Tryz.func129 (by kernel_rfl) (by kernel_rfl) (by kernel_rfl) (e := Extern.AbiNoEscape.same) (by kernel_rfl)]
 rw [Lib.run_noEscape]
 simp only [Result.andThen]
 rw [Oper.upon_value]
 go_wp2
 rw [Lib.run_from_unsafe w ⟨b, 0, none⟩ Tryz.underlying163 Tryz.underlying125 hj hsh (by kernel_rfl)]
 simp only [Result.andThen]
 rw [Oper.upon_value]
 go_wp2
 go_end0
 exact ⟨rfl, rfl⟩
theorem check_used (b : Nat) (w : World) (h0 : w.cell? ⟨b, 0, none⟩ = some (.pointer (some ⟨b, 0, none⟩))) :
  Calls Tryz.prog 115 #[.pointer (some ⟨b, 0, none⟩)] w fun e w' => e = .returned (.tuple #[]) ∧ w' = w := by
 obtain ⟨j, hj, _⟩ := Option.map_eq_some_iff.1 sizeSB
 go_enter Tryz.func115, Tryz.ntmps115
 go_wp2
 rw [Lib.run_neq_ptr_same w _ Tryz.underlying125 hj]
 go_wp2
 go_end0
 exact ⟨rfl, rfl⟩
def SB (B b : Nat) (bs : List Value) (w : World) : Prop := Lib.IsBuilderF 127 5 B b bs w
def SK (B b : Nat) (w w' : World) : Prop := Below B w w' ∧ Lib.OthersKept 5 (some b) w w'
theorem check_c (B b : Nat) (bs : List Value) (w : World) (h : SB B b bs w) :
  Calls Tryz.prog 115 #[.pointer (some ⟨b, 0, none⟩)] w fun e w' => e = .returned (.tuple #[]) ∧ Lib.BuilderAtF 127 5 B b (.pointer (some ⟨b, 0, none⟩)) bs w' ∧ SK B b w w' := by
 rcases h with h | h
 ·refine (check_fresh b w h.cell0 h.shape h.frozen0).mono ?_
  rintro e w' ⟨rfl, rfl⟩
  exact ⟨rfl, h.used _, (Below.refl B w).setCell (p := ⟨b, 0, none⟩) h.1 _, (Lib.OthersKept.refl _ _ w).setCell ⟨b, 0, none⟩ rfl _⟩
 ·refine (check_used b w h.cell0).mono ?_
  rintro e w' ⟨rfl, rfl⟩
  exact ⟨rfl, h, Below.refl B _, Lib.OthersKept.refl _ _ _⟩
theorem wstr_c (B b : Nat) (bs : List Value) (s : ByteArray) (w : World) (h : SB B b bs w) (hlen : bs.length + s.size ≤ 140737488355328) (hBw : B ≤ w.heap.size) :
  Calls Tryz.prog 93 #[.pointer (some ⟨b, 0, none⟩), .string s] w fun e w' => e = .returned (.tuple #[.int .i64 s.size, .nilIface]) ∧ SB B b (bs ++ Lib.strCells s) w' ∧ SK B b w w' := by
 obtain ⟨i0, hi, hz0, hz1, hz2⟩ := info_parts infoU8
 have CK := Lib.hid (check_c B b bs w h)
 go_enter Tryz.func93, Tryz.ntmps93
 go_wp2_with fail
 refine CK.out.mono ?_
 rintro e w1 ⟨rfl, h1, hb1, hk1⟩
 obtain ⟨hB, v, hbk, hown, hne⟩ := h1
 have c1 : w1.cell? ⟨b, 1, none⟩ = some v := by rw [Lib.cell_of_heap hbk]; rfl
 go_wp2_with (at_builtin; refine Lib.wpList_append_own_stringF _ rfl _ _ 97 9 rfl B 5 i0 Tryz.underlying97 Tryz.underlying9 hi hz0 hz1 hz2 _ _ _ rfl hown s rfl ?c3 ?c4 ?c5 ?_)
 case c3 => unfold maxLen; omega
 case c4 => omega
 case c5 => have := hb1.size; omega
 intro v' w2 hown' hgrow _
 have hlt : b < w1.heap.size := (Array.getElem?_eq_some_iff.1 hbk).1
 have hb2 : w2.heap[b]? = some (.cells #[.pointer (some ⟨b, 0, none⟩), v] 127 (0, 0)) := by
  rw [hgrow.block b hlt (fun e => hne e.symm)]
  exact hbk
 have d1 : w2.cell? ⟨b, 1, none⟩ = some v := by rw [Lib.cell_of_heap hb2]; rfl
 have f1 : w2.frozen? ⟨b, 1, none⟩ = false := Lib.frozen_of_heap hb2 1
 obtain ⟨ao, n', cap, rfl⟩ : ∃ ao n' cap, v' = .slice ao n' cap := by
  rcases hown'.2 with ⟨hv, _⟩ | ⟨g, cap, cur, fz, hv, _⟩
  ·exact ⟨_, _, _, hv⟩
  ·exact ⟨_, _, _, hv⟩
 go_wp2
 go_ret2
 refine ⟨rfl, .inr ?_, ?_, (hk1.grown hgrow (Lib.ownsRowF_kind hown)).setCell ⟨b, 1, none⟩ rfl _⟩
 ·exact Lib.BuilderAtF.put (T := 127) (e := 5) hB hb2 (bs' := bs ++ Lib.strCells s) (by simpa [Lib.strCells_length] using hown') (by decide)
 ·exact (hb1.grown hgrow (by have := hb1.size; omega) (fun k hk => (hown.lt k hk).1)).setCell (p := ⟨b, 1, none⟩) hB _
end Go.Proofs.YtkcbknfhckomcaaGreatDoor
namespace Go.Proofs.YtkcbknfhckomcaaGreatDoor
open Go.RowKit
theorem BuilderAtF.below {T e : TypeId} {B b : Nat} {p : Value} {bs : List Value} {w w' : World} (h : Lib.BuilderAtF T e B b p bs w) (hB : Below w.heap.size w w') : Lib.BuilderAtF T e B b p bs w' := by
 obtain ⟨h1, v, h2, h3, h4⟩ := h
 refine ⟨h1, v, (hB.block b (Array.getElem?_eq_some_iff.1 h2).1).trans h2, ⟨h3.1, ?_⟩, h4⟩
 rcases h3.2 with h | ⟨g, cap, cur, fz, e1, e2, e3, r⟩
 ·exact .inl h
 ·exact .inr ⟨g, cap, cur, fz, e1, e2, (hB.block g (Array.getElem?_eq_some_iff.1 e3).1).trans e3, r⟩
theorem SB.below {B b : Nat} {bs : List Value} {w w' : World} (h : SB B b bs w) (hB : Below w.heap.size w w') : SB B b bs w' := h.imp (fun x => BuilderAtF.below x hB) (fun x => BuilderAtF.below x hB)
theorem SK.of {B b : Nat} {w w' : World} (hB : Below w.heap.size w w') (h : B ≤ w.heap.size) : SK B b w w' :=
 ⟨hB.mono h, fun k o hk _ _ => (hB.block k (Array.getElem?_eq_some_iff.1 hk).1).trans hk⟩
theorem SK.trans {B b : Nat} {w w' w2 : World} (h : SK B b w w') (h' : SK B b w' w2) : SK B b w w2 := ⟨h.1.trans h'.1, h.2.trans h'.2⟩
section
variable {L C b o n cap : Nat} {xs : List Nd} {bs bs' : List Value} {w w' : World}
end
end Go.Proofs.YtkcbknfhckomcaaGreatDoor
namespace Go.Proofs.YtkcbknfhckomcaaGreatDoor
open Go.RowKit
theorem cells_app (a b : List UInt8) : Lib.byteCells (a ++ b) = Lib.byteCells a ++ Lib.byteCells b := List.map_append ..
theorem cells_len (a : List UInt8) : (Lib.byteCells a).length = a.length := by simp [Lib.byteCells]
end Go.Proofs.YtkcbknfhckomcaaGreatDoor
