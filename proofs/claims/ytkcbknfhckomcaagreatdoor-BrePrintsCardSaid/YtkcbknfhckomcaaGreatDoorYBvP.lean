/- The reference's Parse. -/
import Derived.Test.YtkcbknfhckomcaaGreatDoorYBvK
import Derived.Test.YtkcbknfhckomcaaGreatDoorYSetMn
import Derived.Test.YtkcbknfhckomcaaGreatDoorYRxSm
import Derived.BigQuiet
set_option linter.unusedVariables false
set_option linter.unusedSimpArgs false
set_option maxRecDepth 100000
set_option maxHeartbeats 40000000
namespace Go.Proofs.YtkcbknfhckomcaaGreatDoor
open Go.RowKit Go.Lib
def parEnd (s : List UInt8) : Except Er BRd → Except Er (List Nd)
 | .error e => .error e
 | .ok q => if q.p ≠ s.length then .error (41, q.p) else if 120 < q.l.length then .error (2, 0) else .ok q.l
def PUOut (s : List UInt8) (e : Ending) (w' : World) : Prop := match parseU s with
 | .ok l => ∃ p n cap, e = .returned (.tuple #[.slice p n cap, .int .i64 0, .int .i64 0]) ∧ Nodes w' p n l
 | .error (z, a) => e = .returned (.tuple #[.slice none 0 0, .int .i64 (a : Int), .int .i64 z])
theorem PUOut.no {s : List UInt8} {w' : World} {z a' : Int} {a : Nat} (h : parseU s = .error (z, a)) (ha : a' = (a : Int)) : PUOut s (.returned (.tuple #[.slice none 0 0, .int .i64 a', .int .i64 z])) w' := by
 subst ha; unfold PUOut; rw [h]
theorem PUOut.yes {s : List UInt8} {w' : World} {l : List Nd} {p : Option Addr} {n cap : Nat} (h : parseU s = .ok l) (hN : Nodes w' p n l) : PUOut s (.returned (.tuple #[.slice p n cap, .int .i64 0, .int .i64 0])) w' := by
 unfold PUOut; rw [h]; exact ⟨p, n, cap, rfl, hN⟩
theorem parseU_fits {s : List UInt8} {l : List Nd} (h : parseU s = .ok l) : ∀ (i : Nat) (x : Nd), l[i]? = some x → x.Fits := by
 rw [parse_same] at h
 cases hq : wholeP s with
 | error e => rw [hq] at h; cases h
 | ok q => rw [hq] at h; cases h; exact fun i x hx => (wholeP_fl s q hq).f x (List.mem_of_getElem? hx)
theorem rparse_c (s : List UInt8) (hs : s.length ≤ 100000) (w : World) :
  Calls Tryz.prog 16 #[.string ⟨s.toArray⟩] w fun e w' => PUOut s e w' ∧ Below w.heap.size w w' := by
 have hsz : (⟨s.toArray⟩ : ByteArray).size = s.length := by simp [ByteArray.size]
 obtain ⟨hz, hsz2⟩ := zero_of_info (P := Tryz.prog) infoSt
 by_cases he : s = []
 ·subst he
  have hP : parseU [] = .ok [kindNd 0] := by unfold parseU; rw [if_pos rfl]
  have hN : Nodes (w.alloc (.cells (kindNd 0).cells 47)) (some ⟨w.heap.size, 0, none⟩) 1 [kindNd 0] :=
   ⟨rfl, by decide, fun _ => ⟨_, _, rfl⟩, fun _ b o e => by
    simp only [Option.some.injEq, Addr.mk.injEq] at e
    obtain ⟨rfl, rfl, _⟩ := e
    refine ⟨by simp, fun i x hx j u hj => ?_⟩
    cases i with
    | succ i => simp at hx
    | zero =>
     simp at hx
     subst hx
     rw [cell_of _ _ _ _ (heap_new w _)]
     simpa using hj, parseU_fits hP⟩
  have hB : Below w.heap.size w (w.alloc (.cells (kindNd 0).cells 47)) := (Below.refl _ w).alloc (Nat.le_refl _) _
  unfold kindNd Nd.cells at hN hB
  have HN := Lib.hid hN
  have HB := Lib.hid hB
  have HP := Lib.hid hP
  clear hN hB hP hz
  go_enter Tryz.func16, Tryz.ntmps16
  go_wp2_with fail
  refine bodyPost_ret (v := .tuple #[.slice (some ⟨w.heap.size, 0, none⟩) 1 1, .int .i64 0, .int .i64 0]) (by simp [results, Tryz.results16, go_sem]) rfl ?_
  exact ⟨PUOut.yes HP.out HN.out, HB.out⟩
 ·have hse : s.isEmpty = false := by
   cases s with
   | nil => exact absurd rfl he
   | cons a l => rfl
  have hrw : ∀ w, Calls Tryz.prog 33 #[.string ⟨s.toArray⟩, .int .i64 0, .agg (sc (.slice none 0 0) 0 (fun _ => false) 0 0)] w (SOut w (rowU s 10 ⟨0, [], 0, fun _ => false⟩)) := fun w =>
   rowUU_c s hs 10 ⟨0, [], 0, fun _ => false⟩ none 0 w (by show 10 ≤ 10 + 0; omega) (by show 0 ≤ 9; omega) (by show 0 ≤ s.length; omega) (by simp) (World.ownsRow_nil _ _ _ _)
  obtain ⟨X, hX⟩ : ∃ X, X = rowU s 10 ⟨0, [], 0, fun _ => false⟩ := ⟨_, rfl⟩
  have hP : parseU s = parEnd s (rowU s 10 ⟨0, [], 0, fun _ => false⟩) := by
   unfold parseU; rw [if_neg he]; rfl
  rw [← hX] at hP
  have hgo := rowU_goes s 10 0 (by omega) (by omega)
  have her : ∀ e, X = .error e → e.1 ≠ 0 := fun e h => hgo.er ⟨0, [], 0, fun _ => false⟩ (Nat.zero_le _) rfl e (hX.symm.trans h)
  have hok : ∀ q, X = .ok q → q.p ≤ s.length ∧ q.l.length ≤ 3 * q.p := fun q h => by
   have := hgo.ok ⟨0, [], 0, fun _ => false⟩ (Nat.zero_le _) rfl q (hX.symm.trans h)
   refine ⟨this.2.1, ?_⟩
   have h3 : q.l.length ≤ 0 + 3 * (q.p - 0) := this.2.2.1
   omega
  rw [← hX] at hrw
  have HP := Lib.hid hP
  have HER := Lib.hid her
  have HOK := Lib.hid hok
  generalize hC0 : sc (.slice none 0 0) 0 (fun _ => false) 0 0 = C0 at hz hrw
  have HRW := Lib.hid hrw
  clear hrw hP hgo hX her hok he
  go_enter Tryz.func16, Tryz.ntmps16
  go_wp2_with fail
  refine (HRW.out _).mono ?_
  rintro e w2 hso
  subst hC0
  clear HRW
  cases X with
  | error z =>
   obtain ⟨er, at_⟩ := z
   obtain ⟨p2, n2, c2, g2, en2, k2, rfl, hB2⟩ := hso
   have hne : er ≠ 0 := HER.out (er, at_) rfl
   have HPE : Hid (parseU s = .error (er, at_)) := HP
   have Zs := (ST.new w2 (.slice none 0 0) 0 (fun _ => false) 0 0).storeCells (v' := .slice p2 n2 c2) rfl g2 en2 at_ er
   have HU := Lib.hid ((ST.new w2 (.slice none 0 0) 0 (fun _ => false) 0 0).put (.slice p2 n2 c2) g2 en2 at_ er)
   have hB3 := Below.setRow ((Below.refl _ w2).alloc (Nat.le_refl _) (.cells (sc (.slice none 0 0) 0 (fun _ => false) 0 0) 69)) (Nat.le_refl _) (sc (.slice p2 n2 c2) g2 en2 at_ er)
   have HB3 := Lib.hid (hB2.trans (hB3.mono hB2.size))
   clear HER HOK HP hB2 hB3
   go_upto_region 4 with fail
   generalize (w2.alloc (.cells (sc (.slice none 0 0) 0 (fun _ => false) 0 0) 69)).setRow w2.heap.size (sc (.slice p2 n2 c2) g2 en2 at_ er) = W3 at *
   generalize w2.heap.size = u at *
   clear Zs hz
   have cu : W3.cell? ⟨u, 13, none⟩ = some (.int .i64 er) := HU.out.cell 13
   have ca : W3.cell? ⟨u, 12, none⟩ = some (.int .i64 (at_ : Int)) := HU.out.cell 12
   have hnz : ((er : Int) != 0) = true := by rw [bne_iff_ne]; exact hne
   clear HU
   go_wp2_with fail
   go_quiet (fail)
   go_wp2
   refine bodyPost_ret (v := .tuple #[.slice none 0 0, .int .i64 (at_ : Int), .int .i64 er]) (by simp [results, Tryz.results16, go_sem]) rfl ?_
   exact ⟨PUOut.no HPE.out rfl, Go.below_drewN HB3.out _⟩
  | ok v =>
   obtain ⟨vp, ys, vg, ven⟩ := v
   obtain ⟨p2, c2, rfl, hr2, hB2⟩ := hso
   have hv := HOK.out _ rfl
   simp only at hv hr2
   have Zs := (ST.new w2 (.slice none 0 0) 0 (fun _ => false) 0 0).storeCells (v' := .slice p2 ys.length c2) rfl vg ven 0 0
   have HU := Lib.hid ((ST.new w2 (.slice none 0 0) 0 (fun _ => false) 0 0).put (.slice p2 ys.length c2) vg ven 0 0)
   have hB3 := Below.setRow ((Below.refl _ w2).alloc (Nat.le_refl _) (.cells (sc (.slice none 0 0) 0 (fun _ => false) 0 0) 69)) (Nat.le_refl _) (sc (.slice p2 ys.length c2) vg ven 0 0)
   have HX := Lib.hid (row_below hr2 hB3)
   have HB3 := Lib.hid (hB2.trans (hB3.mono hB2.size))
   clear HER HOK hB2 hB3 hr2
   go_upto_region 4 with fail
   generalize (w2.alloc (.cells (sc (.slice none 0 0) 0 (fun _ => false) 0 0) 69)).setRow w2.heap.size (sc (.slice p2 ys.length c2) vg ven 0 0) = W3 at *
   generalize w2.heap.size = u at *
   clear Zs hz
   have cu : W3.cell? ⟨u, 13, none⟩ = some (.int .i64 0) := HU.out.cell 13
   have c0 : W3.cell? ⟨u, 0, none⟩ = some (.slice p2 ys.length c2) := HU.out.cell 0
   clear HU
   by_cases hlt : vp < s.length
   ·have g1 : ((vp : Int) < s.length) = True := by simp; omega
    have HPE : Hid (parseU s = .error (41, vp)) := Lib.hid (HP.out.trans (if_pos (by show vp ≠ s.length; omega)))
    clear HP HX
    go_wp2_with fail
    refine bodyPost_ret (v := .tuple #[.slice none 0 0, .int .i64 (vp : Int), .int .i64 41]) (by simp [results, Tryz.results16, go_sem]) rfl ?_
    exact ⟨PUOut.no HPE.out rfl, HB3.out⟩
   ·have g1 : ((vp : Int) < s.length) = False := by simp; omega
    have HP2 := Lib.hid (HP.out.trans (if_neg (by show ¬ vp ≠ s.length; omega)))
    clear HP
    by_cases hw : 120 < ys.length
    ·have g2 : ((120 : Int) < ys.length) = True := by simp; omega
     have HPE : Hid (parseU s = .error (2, 0)) := Lib.hid (HP2.out.trans (if_pos hw))
     clear HP2 HX
     go_wp2_with fail
     refine bodyPost_ret (v := .tuple #[.slice none 0 0, .int .i64 0, .int .i64 2]) (by simp [results, Tryz.results16, go_sem]) rfl ?_
     exact ⟨PUOut.no HPE.out rfl, HB3.out⟩
    ·have g2 : ((120 : Int) < ys.length) = False := by simp; omega
     have HPE : Hid (parseU s = .ok ys) := Lib.hid (HP2.out.trans (if_neg hw))
     obtain ⟨p3, c3, he3, hN⟩ := rows_nodes HX.out rfl (by omega) (parseU_fits HPE.out)
     cases he3
     have HN := Lib.hid hN
     clear HP2 HX hN
     go_wp2_with fail
     refine bodyPost_ret (v := .tuple #[.slice p2 ys.length c2, .int .i64 0, .int .i64 0]) (by simp [results, Tryz.results16, go_sem]) rfl ?_
     exact ⟨PUOut.yes HPE.out HN.out, HB3.out⟩
end Go.Proofs.YtkcbknfhckomcaaGreatDoor
namespace Go.Proofs.YtkcbknfhckomcaaGreatDoor
open Go.RowKit
theorem its4_c (p : Option Addr) (n cap : Nat) (xs : List Nd) (hn : n ≤ 130) (w : World) (h : Nodes w p n xs) :
  Calls Tryz.prog 7 #[.slice p n cap] w fun e w' => (∃ v, e = .returned v ∧ RRow w' w.heap.size v n xs) ∧ Below w.heap.size w w' := by
 obtain ⟨i0, hi, hz0, hz1, hz2⟩ := info_parts infoRn
 have hlen := h.len
 go_enter Tryz.func7, Tryz.ntmps7
 go_wp2
 go_loopw [3, 4] (fun v i wr => ∃ (k : Nat) (v' : Value), v = v' ∧ k ≤ n ∧ i = .int .i64 k ∧ wr.ownsRow w.heap.size 47 10 v' k (flat (xs.take k)) ∧ Below w.heap.size w wr) (fun _ i _ => n - (RowKit.intOf i).toNat)
 case atStart => exact ⟨0, _, rfl, by omega, rfl, World.ownsRow_made w #[] 0 (Nat.le_refl _) (Nat.zero_le _) (by simp), (Below.refl _ w).alloc (Nat.le_refl _) _⟩
 case round =>
  obtain ⟨k, v, rfl, hk, rfl, hown, hB⟩ := hrel
  by_cases hlt : k < n
  ·obtain ⟨b, o, rfl⟩ := h.ptr (by omega)
   have hx := h.at' (by omega) b o rfl
   obtain ⟨x, hxk⟩ : ∃ x, xs[k]? = some x := ⟨xs[k]'(by omega), List.getElem?_eq_getElem (by omega)⟩
   have hsn := flat_snoc xs k x hxk
   have hw := hx.below hB hx.lt
   have lb := hx.lt
   have lB := hB.size
   have d := hw.cell k x hxk
   have ex : ∀ j : Nat, ((wr.alloc (.cells x.cells 40)).alloc (.cells x.cells 47)).cell? ⟨wr.heap.size + 1, j, none⟩ = x.cells[j]? := fun j => by
    have hh : ((wr.alloc (.cells x.cells 40)).alloc (.cells x.cells 47)).heap[wr.heap.size + 1]? = some (.cells x.cells 47 (0, 0)) := by
     have := heap_new (wr.alloc (.cells x.cells 40)) (.cells x.cells 47)
     rw [World.size_alloc] at this
     exact this
    rw [cell_of _ _ _ _ hh]
   obtain ⟨kd, w0, w1, w2, w3, xa, xb, m, M, xn⟩ := x
   have d0 : wr.cell? ⟨b, o + k * 10, none⟩ = some (.int .i64 kd) := d 0 _ rfl
   have d1 : wr.cell? ⟨b, o + k * 10 + 1, none⟩ = some (.int .u64 w0) := d 1 _ rfl
   have d2 : wr.cell? ⟨b, o + k * 10 + 2, none⟩ = some (.int .u64 w1) := d 2 _ rfl
   have d3 : wr.cell? ⟨b, o + k * 10 + 3, none⟩ = some (.int .u64 w2) := d 3 _ rfl
   have d4 : wr.cell? ⟨b, o + k * 10 + 4, none⟩ = some (.int .u64 w3) := d 4 _ rfl
   have d5 : wr.cell? ⟨b, o + k * 10 + 5, none⟩ = some (.int .i64 xa) := d 5 _ rfl
   have d6 : wr.cell? ⟨b, o + k * 10 + 6, none⟩ = some (.int .i64 xb) := d 6 _ rfl
   have d7 : wr.cell? ⟨b, o + k * 10 + 7, none⟩ = some (.int .i64 m) := d 7 _ rfl
   have d8 : wr.cell? ⟨b, o + k * 10 + 8, none⟩ = some (.int .i64 M) := d 8 _ rfl
   have d9 : wr.cell? ⟨b, o + k * 10 + 9, none⟩ = some (.int .i64 xn) := d 9 _ rfl
   have HS := Lib.hid hsn
   have hklen : (k : Int) < n := by omega
   clear d hw hxk hx h hsn
   go_wp2_with (at_builtin; refine wpList_append_own _ rfl _ _ 28 rfl w.heap.size 47 i0 (.agg #[.int .i64 0, .int .u64 0, .int .u64 0, .int .u64 0, .int .u64 0, .int .i64 0, .int .i64 0, .int .i64 0, .int .i64 0, .int .i64 0]) 10 80 Tryz.underlying28 hi hz0 hz1 hz2 rfl (by decide) _ _ _ rfl ((hown.alloc _).alloc _) ⟨wr.heap.size + 1, 0, none⟩ 1 1 (Nd.cells ⟨kd, w0, w1, w2, w3, xa, xb, m, M, xn⟩).toList rfl rfl ?qc2 ?qc3 ?qc4 ?qc5 ?qc6 ?_)
   case qc2 =>
    intro j u hj
    rw [Addr.add_lit, Nat.zero_add]
    refine (ex j).trans ?_
    simpa using hj
   case qc3 =>
    intro u hu
    simp [Nd.cells] at hu
    rcases hu with rfl | rfl | rfl | rfl | rfl | rfl | rfl | rfl | rfl | rfl <;> rfl
   case qc4 => unfold maxLen; omega
   case qc5 => omega
   case qc6 => simp; omega
   intro v' w4 hown1 hgrow hnil
   have hB1 : Below w.heap.size w w4 := ((hB.alloc (by omega) _).alloc (by simp; omega) _).grown hgrow (by simp; omega) (fun k hk => (hown.lt k hk).1)
   go_wp2
   go_roundw
   case rel => exact ⟨k + 1, v', rfl, by omega, by simp, by rw [HS.out]; exact hown1, hB1⟩
   case measure => (simp [RowKit.intOf]) <;> omega
  ·obtain rfl : k = n := by omega
   have hlt1 : ((k : Int) < k) = False := by simp
   go_wp2
   go_ret
   have e : xs.take k = xs := by rw [← hlen]; exact List.take_length
   rw [e] at hown
   exact ⟨⟨_, rfl, hown⟩, hB⟩
theorem its4_n (p : Option Addr) (n cap : Nat) (xs : List Nd) (hn : n ≤ 130) (w : World) (h : Nodes w p n xs) :
  Calls Tryz.prog 7 #[.slice p n cap] w fun e w' => (∃ q cap', e = .returned (.slice q n cap') ∧ Nodes w' q n xs) ∧ Below w.heap.size w w' := by
 refine (its4_c p n cap xs hn w h).mono ?_
 rintro e w' ⟨⟨v, rfl, hr⟩, hB⟩
 obtain ⟨q, cap', rfl, hN⟩ := rows_nodes hr h.len (by omega) h.fits
 exact ⟨⟨q, cap', rfl, hN⟩, hB⟩
end Go.Proofs.YtkcbknfhckomcaaGreatDoor
