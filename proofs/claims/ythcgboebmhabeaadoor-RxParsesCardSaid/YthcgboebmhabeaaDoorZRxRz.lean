/- The reference's read: a list; all of read. -/
import Derived.Test.YthcgboebmhabeaaDoorZRxRx
import Derived.Test.YthcgboebmhabeaaDoorZSetE
import Derived.Test.YthcgboebmhabeaaDoorZSetJ
import Derived.Deep.RegionHeld3
import Derived.Laws.DeepStrings4
namespace Go.Proofs.YthcgboebmhabeaaDoor
open Go.RowKit Go.Lib
set_option linter.unusedVariables false
set_option linter.unusedSimpArgs false

theorem NR.setS {w : World} {b : Nat} {x : Nd} (h : NR w b x) (a0 a1 a2 a3 : Nat) : NR ((((w.setCell ⟨b, 1, none⟩ (.int .u64 (a0 : Int))).setCell ⟨b, 2, none⟩ (.int .u64 (a1 : Int))).setCell ⟨b, 3, none⟩ (.int .u64 (a2 : Int))).setCell ⟨b, 4, none⟩ (.int .u64 (a3 : Int))) b ⟨x.kind, a0, a1, a2, a3, x.a, x.b, x.mn, x.mx, x.n⟩ :=
  ⟨by rw [heap_setCell_same _ b 4 _ _ _ (heap_setCell_same _ b 3 _ _ _ (heap_setCell_same _ b 2 _ _ _ (heap_setCell_same _ b 1 _ _ _ h.heap)))]; rfl⟩
theorem strOf_one (m : Nat) (hm : m < 256) : strOfNums [(m : Int)] = ⟨#[UInt8.ofNat m]⟩ := by
  apply ByteArray.ext
  apply Array.ext'
  rw [strOfNums_data]
  simp
theorem conv1 (m : Nat) (hm : m < 256) (b : Nat) (W : World) (hc : W.cell? ⟨b, 0, none⟩ = some (.int .u8 (m : Int))) :
    (convert 50 9 (.slice (some ⟨b, 0, none⟩) 1 1)).run Tryd.prog W = .ok (.string ⟨#[UInt8.ofNat m]⟩) W := by
  rw [← strOf_one m hm]
  refine run_convert_bytes_arg W 50 5 Tryd.underlying50 Tryd.underlying5 b 0 1 1 [(m : Int)] rfl (fun i hi => ?_) _ Tryd.underlying9
  obtain rfl : i = 0 := by omega
  simpa using hc
theorem two_at (s : List UInt8) (p : Nat) : (⟨s.toArray⟩ : ByteArray).extract p (p + 2) = ⟨((s.drop p).take 2).toArray⟩ := by
  apply ByteArray.ext
  apply Array.ext'
  simp [ByteArray.data_extract]
theorem slice2 (s : List UInt8) (hl : s.length ≤ 100000) (p : Nat) (hp : p + 1 < s.length) (w : World) : (Instr.slice 9 (.string ⟨s.toArray⟩) (some (.int .i64 (p : Int))) (some (.int .i64 ((p : Int) + 2))) none).run Tryd.prog w = .ok (.string ⟨((s.drop p).take 2).toArray⟩) w := by
  have hs : (⟨s.toArray⟩ : ByteArray).size = s.length := by simp [ByteArray.size]
  rw [run_slice_string_if (P := Tryd.prog) w 9 _ .i64 .i64 (p : Int) ((p : Int) + 2) Tryd.underlying9, if_pos ⟨by omega, by rw [hs]; omega⟩, if_pos ⟨by omega, by omega⟩]
  rw [show ((p : Int) + 2).toNat = p + 2 by omega, show ((p : Int)).toNat = p by omega, two_at]

set_option maxRecDepth 100000 in
set_option maxHeartbeats 40000000 in
theorem read_br (s : List UInt8) (hl : s.length ≤ 100000) (f d a g : Nat) (hd : d + f = 130) (xs : List Nd) (v : Value) (w : World) (hg : g ≤ a) (hx : xs.length ≤ a) (hrow : RRow w 0 v xs.length xs) (ha : s[a]? = some 91) :
    Calls Tryd.prog 14 #[.string ⟨s.toArray⟩, .int .i64 (a : Int), v, .int .i64 (g : Int), .int .i64 (d : Int)] w (RdP w v (rr s (f + 1) a xs g)) := by
  obtain ⟨i0, hi, hz0, hz1, hz2⟩ := info_parts infoRn
  obtain ⟨hzs, hszs⟩ := zero_of_info (P := Tryd.prog) info27
  have hlt := (List.getElem?_eq_some_iff.1 ha).1
  have hx1 := fun w => ridx_c s hl a _ ha w
  have g1 : ((s.length : Int) ≤ a) = False := by simp; omega
  have g2 : ((130 : Int) < d) = False := by simp; omega
  have ew : IntKind.i64.wrap ((a : Int) + 1) = (a : Int) + 1 := by simp [IntKind.wrap, IntKind.signed, IntKind.bits]; omega
  have hx2 : ∀ w, (Instr.index 9 (.string ⟨s.toArray⟩) (.int .i64 (a : Int))).run Tryd.prog w = .ok (.int .u8 91) w := hx1
  have hne := row_lt hrow
  have hrr : rr s (f + 1) a xs g = (rbr s (s.length + 1) (a + 1) fun _ => false).map fun p => (xs ++ [setNd p.1], g, p.2 + 1) := by
    simp [rr, ha]
  obtain ⟨RB, hRB⟩ : ∃ RB, RB = rbr s (s.length + 1) (a + 1) fun _ => false := ⟨_, rfl⟩
  rw [← hRB] at hrr
  have HRR := Lib.hid hrr
  have HB0 := Lib.hid hRB.symm
  have HG := Lib.hid hrow
  have HW := Lib.hid fun F w => words_c F w
  have HX := Lib.hid fun p c (hc : s[p]? = some c) w => ridx_c s hl p c hc w
  have HH0 := Lib.hid fun l (hl : l.length ≤ 100000) w => hex_c l hl w
  have HS2 := Lib.hid fun p (hp : p + 1 < s.length) w => slice2 s hl p hp w
  have nz0 := (Row.new (w.alloc (.cells #[.int .i64 1, .int .u64 0, .int .u64 0, .int .u64 0, .int .u64 0, .int .i64 0, .int .i64 0, .int .i64 0, .int .i64 0, .int .i64 0] 47)) (fun _ => false)).storeCells (fun _ => false)
  rw [World.setRow_alloc_new, World.size_alloc] at nz0
  have hN0 : NR ((w.alloc (.cells #[.int .i64 1, .int .u64 0, .int .u64 0, .int .u64 0, .int .u64 0, .int .i64 0, .int .i64 0, .int .i64 0, .int .i64 0, .int .i64 0] 47)).alloc (.cells (barr fun _ => false) 71)) w.heap.size ⟨1, 0, 0, 0, 0, 0, 0, 0, 0, 0⟩ := (NR.new w ⟨1, 0, 0, 0, 0, 0, 0, 0, 0, 0⟩).below (B := w.heap.size + 1) (by
    have := (Below.refl (w.heap.size + 1) (w.alloc (.cells #[.int .i64 1, .int .u64 0, .int .u64 0, .int .u64 0, .int .u64 0, .int .i64 0, .int .i64 0, .int .i64 0, .int .i64 0, .int .i64 0] 47))).alloc (by simp) (.cells (barr fun _ => false) 71)
    exact this) (by omega)
  have hR0 := Row.new (w.alloc (.cells #[.int .i64 1, .int .u64 0, .int .u64 0, .int .u64 0, .int .u64 0, .int .i64 0, .int .i64 0, .int .i64 0, .int .i64 0, .int .i64 0] 47)) (fun _ => false)
  rw [World.size_alloc] at hR0
  have hB0 : Below w.heap.size w ((w.alloc (.cells #[.int .i64 1, .int .u64 0, .int .u64 0, .int .u64 0, .int .u64 0, .int .i64 0, .int .i64 0, .int .i64 0, .int .i64 0, .int .i64 0] 47)).alloc (.cells (barr fun _ => false) 71)) := ((Below.refl _ w).alloc (Nat.le_refl _) _).alloc (by simp) _
  have HN0 := Lib.hid hN0
  have HR0 := Lib.hid hR0
  have HBB0 := Lib.hid hB0
  clear hrr hRB hx1 ha hrow hN0 hR0 hB0
  unfold bv at HW
  go_enter Tryd.func14, Tryd.ntmps14
  go_wp2
  clear nz0 hx2
  go_loopw [15] (fun i wr => ∃ (p fu : Nat) (F : Nat → Bool), i = .int .i64 (p : Int) ∧ a + 1 ≤ p ∧ p ≤ s.length ∧ s.length + a + 1 ≤ fu + p ∧ Hid (rbr s (fu + 1) p F = RB) ∧ Row wr (w.heap.size + 1) F ∧ NR wr w.heap.size ⟨1, 0, 0, 0, 0, 0, 0, 0, 0, 0⟩ ∧ Below w.heap.size w wr) (fun i _ => s.length - (RowKit.intOf i).toNat)
  case atStart => exact ⟨a + 1, s.length, fun _ => false, by simp, by omega, by omega, by omega, HB0, HR0.out, HN0.out, HBB0.out⟩
  case round =>
    clear HB0 HR0 HN0 HBB0
    obtain ⟨p, fu, F, rfl, hpa, hps, hfu, hrb, hR, hN, hB⟩ := hrel
    have ep1 : IntKind.i64.wrap ((p : Int) + 1) = (p : Int) + 1 := by simp [IntKind.wrap, IntKind.signed, IntKind.bits]; omega
    have ep2 : IntKind.i64.wrap ((p : Int) + 2) = (p : Int) + 2 := by simp [IntKind.wrap, IntKind.signed, IntKind.bits]; omega
    by_cases hp1 : p + 1 < s.length
    · have t1 : ((p : Int) + 1 < s.length) = True := by simp; omega
      have t2 : ((s.length : Int) ≤ p) = False := by simp; omega
      obtain ⟨c, hc⟩ : ∃ c, s[p]? = some c := ⟨s[p], List.getElem?_eq_getElem (by omega)⟩
      have hxc := HX.out p c hc
      by_cases hc93 : c = 93
      · subst hc93
        have RBV : rbr s (fu + 1) p F = some (F, p) := by
          rw [rbr, if_neg (by rintro ⟨_, q⟩; exact q hc), if_pos hc]
        have hxd : ∀ w, (Instr.index 9 (.string ⟨s.toArray⟩) (.int .i64 (p : Int))).run Tryd.prog w = .ok (.int .u8 93) w := hxc
        clear hxc hc HX HS2 HH0
        go_wp2_with fail
        refine wp_load_row hR rfl rfl ?_
        go_wp2_with fail
        refine (HW.out F _).mono ?_
        rintro e w3 ⟨rfl, hB3⟩
        have hN3 := hN.below hB3 hN.lt
        have hBB := hB.trans (hB3.mono hB.size)
        obtain ⟨wo, rfl⟩ : ∃ wo, wo = w3 := ⟨_, rfl⟩
        have hs3 := hN3.lt
        have k1 : wo.cell? ⟨w.heap.size, 1, none⟩ = some (.int .u64 0) := (hN3.c 1).trans rfl
        have k2 : wo.cell? ⟨w.heap.size, 2, none⟩ = some (.int .u64 0) := (hN3.c 2).trans rfl
        have k3 : wo.cell? ⟨w.heap.size, 3, none⟩ = some (.int .u64 0) := (hN3.c 3).trans rfl
        have k4 : wo.cell? ⟨w.heap.size, 4, none⟩ = some (.int .u64 0) := (hN3.c 4).trans rfl
        have f1 := hN3.fz 1
        have f2 := hN3.fz 2
        have f3 := hN3.fz 3
        have f4 := hN3.fz 4
        obtain ⟨a0, ha0⟩ : ∃ a0, a0 = wd F 0 := ⟨_, rfl⟩
        obtain ⟨a1, ha1⟩ : ∃ a1, a1 = wd F 1 := ⟨_, rfl⟩
        obtain ⟨a2, ha2⟩ : ∃ a2, a2 = wd F 2 := ⟨_, rfl⟩
        obtain ⟨a3, ha3⟩ : ∃ a3, a3 = wd F 3 := ⟨_, rfl⟩
        have hset : setNd F = ⟨1, a0, a1, a2, a3, 0, 0, 0, 0, 0⟩ := by rw [ha0, ha1, ha2, ha3]; rfl
        simp only [sv, ← ha0, ← ha1, ← ha2, ← ha3]
        have HR : Hid (rr s (f + 1) a xs g = some (xs ++ [⟨1, a0, a1, a2, a3, 0, 0, 0, 0, 0⟩], g, p + 1)) := Lib.hid (HRR.out.trans (by rw [← hrb.out, RBV, Option.map_some, hset]))
        have hN5 := hN3.setS a0 a1 a2 a3
        have hrow3 : RRow wo 0 v xs.length xs := own_kept HG.out hne (grown_of_below hBB)
        have hrow5 : RRow ((((wo.setCell ⟨w.heap.size, 1, none⟩ (.int .u64 (a0 : Int))).setCell ⟨w.heap.size, 2, none⟩ (.int .u64 (a1 : Int))).setCell ⟨w.heap.size, 3, none⟩ (.int .u64 (a2 : Int))).setCell ⟨w.heap.size, 4, none⟩ (.int .u64 (a3 : Int))) 0 v xs.length xs := own_set (own_set (own_set (own_set hrow3 (p := ⟨w.heap.size, 1, none⟩) hne _) (p := ⟨w.heap.size, 2, none⟩) hne _) (p := ⟨w.heap.size, 3, none⟩) hne _) (p := ⟨w.heap.size, 4, none⟩) hne _
        have hg5 : w.grownBy ((((wo.setCell ⟨w.heap.size, 1, none⟩ (.int .u64 (a0 : Int))).setCell ⟨w.heap.size, 2, none⟩ (.int .u64 (a1 : Int))).setCell ⟨w.heap.size, 3, none⟩ (.int .u64 (a2 : Int))).setCell ⟨w.heap.size, 4, none⟩ (.int .u64 (a3 : Int))) v.ownBlock := grown_set (grown_set (grown_set (grown_set (grown_of_below hBB) (p := ⟨w.heap.size, 1, none⟩) (Nat.le_refl _) _) (p := ⟨w.heap.size, 2, none⟩) (Nat.le_refl _) _) (p := ⟨w.heap.size, 3, none⟩) (Nat.le_refl _) _) (p := ⟨w.heap.size, 4, none⟩) (Nat.le_refl _) _
        have z0 : World.cell? ((((wo.setCell ⟨w.heap.size, 1, none⟩ (.int .u64 (a0 : Int))).setCell ⟨w.heap.size, 2, none⟩ (.int .u64 (a1 : Int))).setCell ⟨w.heap.size, 3, none⟩ (.int .u64 (a2 : Int))).setCell ⟨w.heap.size, 4, none⟩ (.int .u64 (a3 : Int))) ⟨w.heap.size, 0, none⟩ = some (.int .i64 (1)) := (hN5.c 0).trans rfl
        have z1 : World.cell? ((((wo.setCell ⟨w.heap.size, 1, none⟩ (.int .u64 (a0 : Int))).setCell ⟨w.heap.size, 2, none⟩ (.int .u64 (a1 : Int))).setCell ⟨w.heap.size, 3, none⟩ (.int .u64 (a2 : Int))).setCell ⟨w.heap.size, 4, none⟩ (.int .u64 (a3 : Int))) ⟨w.heap.size, 1, none⟩ = some (.int .u64 (a0)) := (hN5.c 1).trans rfl
        have z2 : World.cell? ((((wo.setCell ⟨w.heap.size, 1, none⟩ (.int .u64 (a0 : Int))).setCell ⟨w.heap.size, 2, none⟩ (.int .u64 (a1 : Int))).setCell ⟨w.heap.size, 3, none⟩ (.int .u64 (a2 : Int))).setCell ⟨w.heap.size, 4, none⟩ (.int .u64 (a3 : Int))) ⟨w.heap.size, 2, none⟩ = some (.int .u64 (a1)) := (hN5.c 2).trans rfl
        have z3 : World.cell? ((((wo.setCell ⟨w.heap.size, 1, none⟩ (.int .u64 (a0 : Int))).setCell ⟨w.heap.size, 2, none⟩ (.int .u64 (a1 : Int))).setCell ⟨w.heap.size, 3, none⟩ (.int .u64 (a2 : Int))).setCell ⟨w.heap.size, 4, none⟩ (.int .u64 (a3 : Int))) ⟨w.heap.size, 3, none⟩ = some (.int .u64 (a2)) := (hN5.c 3).trans rfl
        have z4 : World.cell? ((((wo.setCell ⟨w.heap.size, 1, none⟩ (.int .u64 (a0 : Int))).setCell ⟨w.heap.size, 2, none⟩ (.int .u64 (a1 : Int))).setCell ⟨w.heap.size, 3, none⟩ (.int .u64 (a2 : Int))).setCell ⟨w.heap.size, 4, none⟩ (.int .u64 (a3 : Int))) ⟨w.heap.size, 4, none⟩ = some (.int .u64 (a3)) := (hN5.c 4).trans rfl
        have z5 : World.cell? ((((wo.setCell ⟨w.heap.size, 1, none⟩ (.int .u64 (a0 : Int))).setCell ⟨w.heap.size, 2, none⟩ (.int .u64 (a1 : Int))).setCell ⟨w.heap.size, 3, none⟩ (.int .u64 (a2 : Int))).setCell ⟨w.heap.size, 4, none⟩ (.int .u64 (a3 : Int))) ⟨w.heap.size, 5, none⟩ = some (.int .i64 (0)) := (hN5.c 5).trans rfl
        have z6 : World.cell? ((((wo.setCell ⟨w.heap.size, 1, none⟩ (.int .u64 (a0 : Int))).setCell ⟨w.heap.size, 2, none⟩ (.int .u64 (a1 : Int))).setCell ⟨w.heap.size, 3, none⟩ (.int .u64 (a2 : Int))).setCell ⟨w.heap.size, 4, none⟩ (.int .u64 (a3 : Int))) ⟨w.heap.size, 6, none⟩ = some (.int .i64 (0)) := (hN5.c 6).trans rfl
        have z7 : World.cell? ((((wo.setCell ⟨w.heap.size, 1, none⟩ (.int .u64 (a0 : Int))).setCell ⟨w.heap.size, 2, none⟩ (.int .u64 (a1 : Int))).setCell ⟨w.heap.size, 3, none⟩ (.int .u64 (a2 : Int))).setCell ⟨w.heap.size, 4, none⟩ (.int .u64 (a3 : Int))) ⟨w.heap.size, 7, none⟩ = some (.int .i64 (0)) := (hN5.c 7).trans rfl
        have z8 : World.cell? ((((wo.setCell ⟨w.heap.size, 1, none⟩ (.int .u64 (a0 : Int))).setCell ⟨w.heap.size, 2, none⟩ (.int .u64 (a1 : Int))).setCell ⟨w.heap.size, 3, none⟩ (.int .u64 (a2 : Int))).setCell ⟨w.heap.size, 4, none⟩ (.int .u64 (a3 : Int))) ⟨w.heap.size, 8, none⟩ = some (.int .i64 (0)) := (hN5.c 8).trans rfl
        have z9 : World.cell? ((((wo.setCell ⟨w.heap.size, 1, none⟩ (.int .u64 (a0 : Int))).setCell ⟨w.heap.size, 2, none⟩ (.int .u64 (a1 : Int))).setCell ⟨w.heap.size, 3, none⟩ (.int .u64 (a2 : Int))).setCell ⟨w.heap.size, 4, none⟩ (.int .u64 (a3 : Int))) ⟨w.heap.size, 9, none⟩ = some (.int .i64 (0)) := (hN5.c 9).trans rfl
        have hN6 := NR.new ((((wo.setCell ⟨w.heap.size, 1, none⟩ (.int .u64 (a0 : Int))).setCell ⟨w.heap.size, 2, none⟩ (.int .u64 (a1 : Int))).setCell ⟨w.heap.size, 3, none⟩ (.int .u64 (a2 : Int))).setCell ⟨w.heap.size, 4, none⟩ (.int .u64 (a3 : Int))) ⟨1, a0, a1, a2, a3, 0, 0, 0, 0, 0⟩
        rw [size_set, size_set, size_set, size_set] at hN6
        have HN6 := Lib.hid hN6
        have HO := Lib.hid hrow5
        have HG5 := Lib.hid hg5
        have hsw : ((((wo.setCell ⟨w.heap.size, 1, none⟩ (.int .u64 (a0 : Int))).setCell ⟨w.heap.size, 2, none⟩ (.int .u64 (a1 : Int))).setCell ⟨w.heap.size, 3, none⟩ (.int .u64 (a2 : Int))).setCell ⟨w.heap.size, 4, none⟩ (.int .u64 (a3 : Int))).heap.size = wo.heap.size := by rw [size_set, size_set, size_set, size_set]
        have HSW := Lib.hid hsw
        clear hsw hN6 hrow5 hrow3 hg5 hN5 hN3 hB3 hBB hset ha0 ha1 ha2 ha3 RBV hrb HRR HW HG hB hR hN
        go_wp2_with (at_builtin; refine wpList_append_own_at _ rfl _ _ 27 rfl 0 47 i0 (.agg #[.int .i64 0, .int .u64 0, .int .u64 0, .int .u64 0, .int .u64 0, .int .i64 0, .int .i64 0, .int .i64 0, .int .i64 0, .int .i64 0]) 10 80 Tryd.underlying27 hi hz0 hz1 hz2 rfl (by decide) _ _ _ rfl (World.ownsRow.alloc HO.out _) ⟨wo.heap.size, 0, none⟩ 1 1 (Nd.cells ⟨1, a0, a1, a2, a3, 0, 0, 0, 0, 0⟩).toList rfl rfl ?qc2 ?qc3 ?qc4 ?qc5 ?qc6 ?_)
        case qc3 => exact one_cells _
        case qc4 => unfold maxLen; omega
        case qc5 => omega
        case qc6 => exact Nat.zero_le _
        case qc2 =>
          intro j u hj
          rw [Addr.add_lit, Nat.zero_add]
          refine (HN6.out.c j).trans ?_
          simpa using hj
        intro v' w6 hown6 hgrow hnil hat
        have h1 : RRow w6 0 v' (xs.length + 1) (xs ++ [⟨1, a0, a1, a2, a3, 0, 0, 0, 0, 0⟩]) := by unfold RRow; rw [flat_app]; exact hown6
        have hat6 : v'.ownBlock = v.ownBlock ∨ ∃ b, v'.ownBlock = some b ∧ w.heap.size ≤ b := by
          rcases hat with e | e
          · exact .inl e
          · exact .inr ⟨_, e, by first | omega | (simp [World.setCell] <;> omega)⟩
        have hgr6 : w.grownBy w6 v.ownBlock := grown_more (grown_alloc HG5.out _) (m := w.heap.size) (Nat.le_refl _) (.inl rfl) hgrow
        clear hown6 hgrow hnil hat HG5 HO HN6 z0 z1 z2 z3 z4 z5 z6 z7 z8 z9 k1 k2 k3 k4 f1 f2 f3 f4 HSW
        go_wp2
        refine bodyPost_ret (v := .tuple #[v', .int .i64 (g : Int), .int .i64 ((p : Int) + 1)]) (by simp [results, Tryd.results14, go_sem]) rfl ?_
        exact RdP.ok HR.out rfl (by simp) (by simp) hgr6 h1 hat6
      · have hcn : ((c.toNat : Int) != 93) = true := by
          rw [bne_iff_ne]; intro e
          exact hc93 (UInt8.toNat_inj.1 (by show c.toNat = 93; omega))
        obtain ⟨fu, rfl⟩ : ∃ q, fu = q + 1 := ⟨fu - 1, by omega⟩
        obtain ⟨T2, hT2⟩ : ∃ T2, T2 = (s.drop p).take 2 := ⟨_, rfl⟩
        have hx3 := HS2.out p hp1
        have hrs : Hid (rbr s (fu + 1) (p + 2) (fun j => F j || decide (j < 256 ∧ hexl [UInt8.ofNat j] = T2)) = RB) := Lib.hid (by
          rw [← hrb.out, rbr.eq_2 s p F (fu + 1), if_pos ⟨hp1, by rw [hc]; simpa using hc93⟩, ← hT2])
        rw [← hT2] at hx3
        clear hc hc93 hT2 hrb HX HS2
        generalize c.toNat = C at *
        go_wp2
        have hRs := hR.lt
        obtain ⟨wq, rfl⟩ : ∃ wq, wq = wr := ⟨_, rfl⟩
        go_loopw [16] (fun i ws => ∃ m : Nat, m ≤ 256 ∧ i = .int .i64 (m : Int) ∧ Row ws (w.heap.size + 1) (fun j => F j || decide (j < m ∧ hexl [UInt8.ofNat j] = T2)) ∧ NR ws w.heap.size ⟨1, 0, 0, 0, 0, 0, 0, 0, 0, 0⟩ ∧ Below w.heap.size w ws) (fun i _ => 256 - (RowKit.intOf i).toNat)
        case atStart => exact ⟨0, by omega, rfl, hR.congr (fun i _ => by simp), hN, hB⟩
        case round =>
          clear hR hN hB hRs
          obtain ⟨m, hm, rfl, hR, hN, hB⟩ := hrel
          obtain ⟨wo, rfl⟩ : ∃ wo, wo = wr := ⟨_, rfl⟩
          by_cases hm256 : m < 256
          · have t3 : ((m : Int) < 256) = True := by simp; omega
            have em : IntKind.u8.wrap (m : Int) = (m : Int) := by simp [IntKind.wrap, IntKind.signed, IntKind.bits]; omega
            have em1 : IntKind.i64.wrap ((m : Int) + 1) = (m : Int) + 1 := by simp [IntKind.wrap, IntKind.signed, IntKind.bits]; omega
            obtain ⟨Hm, hHm⟩ : ∃ Hm, Hm = hexl [UInt8.ofNat m] := ⟨_, rfl⟩
            have HH : Hid (∀ w, Calls Tryd.prog 35 #[.string ⟨#[UInt8.ofNat m]⟩] w fun e w' => e = .returned (.string ⟨Hm.toArray⟩) ∧ Below w.heap.size w w') := Lib.hid (by rw [hHm]; exact fun w => HH0.out [UInt8.ofNat m] (by simp) w)
            have hRo := hR.lt
            by_cases he : Hm = T2
            · have he1 : (Hm == T2) = true := by simpa using he
              have HC : Hid (∀ i, i < 256 → (if i = m then true else (F i || decide (i < m ∧ hexl [UInt8.ofNat i] = T2))) = (F i || decide (i < m + 1 ∧ hexl [UInt8.ofNat i] = T2))) := Lib.hid (fun i hi => by
                by_cases e : i = m
                · subst e; rw [← hHm]; simp [he]
                · rw [if_neg e]; congr 2; simp only [eq_iff_iff]; constructor
                  · rintro ⟨q, r⟩; exact ⟨by omega, r⟩
                  · rintro ⟨q, r⟩; exact ⟨by omega, r⟩)
              subst he
              clear hHm HH0
              go_wp2_with fail
              refine wp_region_noPanic ?_
              refine wp_region_held_drew (S := fun w' => Below wo.heap.size wo w') (by kernel_rfl) ?_ (fun hHeld => ?_)
              · (try dsimp only); exact (Below.refl _ wo).drew
              refine wpAnyH_take (i := 0) (v := ?_) rfl (by kernel_rfl) (by kernel_rfl) (by kernel_rfl) (fun _ _ _ h => h) (Or.inl ⟨by kernel_rfl, ?_⟩) (by assumption) ?_
              rotate_left
              · (intro w hSw; (try dsimp only at hSw); go_simp); (try with_reducible rfl)
              try simp only [Act.put, List.getElem_toArray, List.getElem_cons_succ, List.getElem_cons_zero, List.setIfInBounds_toArray, List.set_cons_zero, List.set_cons_succ]
              refine wpAnyH_take (i := 1) (v := ?_) rfl (by kernel_rfl) (by kernel_rfl) (by kernel_rfl) (fun _ _ _ h => h) (Or.inl ⟨by kernel_rfl, ?_⟩) (by assumption) ?_
              rotate_left
              · (intro w hSw; (try dsimp only at hSw); go_simp); (try with_reducible rfl)
              try simp only [Act.put, List.getElem_toArray, List.getElem_cons_succ, List.getElem_cons_zero, List.setIfInBounds_toArray, List.set_cons_zero, List.set_cons_succ]
              refine wpAnyH_take (i := 5) (v := ?_) rfl (by kernel_rfl) (by kernel_rfl) (by kernel_rfl) (fun _ _ _ h => h) (Or.inl ⟨by kernel_rfl, ?_⟩) (by assumption) ?_
              rotate_left
              · (intro w hSw; (try dsimp only at hSw); go_simp); (try with_reducible rfl)
              try simp only [Act.put, List.getElem_toArray, List.getElem_cons_succ, List.getElem_cons_zero, List.setIfInBounds_toArray, List.set_cons_zero, List.set_cons_succ]
              refine wpAnyH_take (i := 6) (v := ?_) rfl (by kernel_rfl) (by kernel_rfl) (by kernel_rfl) (fun _ _ _ h => h) (Or.inl ⟨by kernel_rfl, ?_⟩) (by assumption) ?_
              rotate_left
              · (intro w hSw; (try dsimp only at hSw); go_simp); (try with_reducible rfl)
              try simp only [Act.put, List.getElem_toArray, List.getElem_cons_succ, List.getElem_cons_zero, List.setIfInBounds_toArray, List.set_cons_zero, List.set_cons_succ]
              refine wpAnyH_take (i := 7) (v := ?_) rfl (by kernel_rfl) (by kernel_rfl) (by kernel_rfl) (fun _ _ _ h => h) (Or.inl ⟨by kernel_rfl, ?_⟩) (by assumption) ?_
              rotate_left
              · (intro w hSw; (try dsimp only at hSw); go_simp); (try with_reducible rfl)
              try simp only [Act.put, List.getElem_toArray, List.getElem_cons_succ, List.getElem_cons_zero, List.setIfInBounds_toArray, List.set_cons_zero, List.set_cons_succ]
              refine wpAnyH_take (i := 8) (v := ?_) rfl (by kernel_rfl) (by kernel_rfl) (by kernel_rfl) (fun _ _ _ h => h) (Or.inl ⟨by kernel_rfl, ?_⟩) (by assumption) ?_
              rotate_left
              · (intro w hSw; (try dsimp only at hSw); go_simp); (try with_reducible rfl)
              try simp only [Act.put, List.getElem_toArray, List.getElem_cons_succ, List.getElem_cons_zero, List.setIfInBounds_toArray, List.set_cons_zero, List.set_cons_succ]
              refine wpAnyH_take (i := 9) (v := ?_) rfl (by kernel_rfl) (by kernel_rfl) (by kernel_rfl) (fun _ _ _ h => h) (Or.inl ⟨by kernel_rfl, ?_⟩) (by assumption) ?_
              rotate_left
              · (intro w hSw; (try dsimp only at hSw); go_simp); (try with_reducible rfl)
              try simp only [Act.put, List.getElem_toArray, List.getElem_cons_succ, List.getElem_cons_zero, List.setIfInBounds_toArray, List.set_cons_zero, List.set_cons_succ]
              refine wpAnyH_ready (rs := [2]) (by kernel_rfl) (by simp) ?_
              refine AllReadyH.cons rfl (fun K hK => ?_) AllReadyH.nil
              go_simp
              refine hK.out _ _ ?_ (fun hHeld => ?_)
              · exact ((Below.refl _ wo).alloc (Nat.le_refl _) _).drew
              clear hK K
              try simp only [Act.put, List.getElem_toArray, List.getElem_cons_succ, List.getElem_cons_zero, List.setIfInBounds_toArray, List.set_cons_zero, List.set_cons_succ]
              refine wpAnyH_ready (rs := [3]) (by kernel_rfl) (by simp) ?_
              refine AllReadyH.cons rfl (fun K hK => ?_) AllReadyH.nil
              have hcv := conv1 m hm256 wo.heap.size ((wo.alloc (.cells #[.int .u8 (m : Int)] 5)).drew) (by
                have hh : ((wo.alloc (.cells #[.int .u8 (m : Int)] 5)).drew).heap[wo.heap.size]? = some (.cells #[.int .u8 (m : Int)] 5 (0, 0)) := heap_new wo _
                rw [cell_of _ _ _ _ hh]; rfl)
              go_simp
              refine hK.out _ _ ?_ (fun hHeld => ?_)
              · exact ((Below.refl _ wo).alloc (Nat.le_refl _) _).drew
              clear hK K hcv
              try simp only [Act.put, List.getElem_toArray, List.getElem_cons_succ, List.getElem_cons_zero, List.setIfInBounds_toArray, List.set_cons_zero, List.set_cons_succ]
              refine wpAnyH_ready (rs := [4]) (by kernel_rfl) (by simp) ?_
              refine AllReadyH.cons rfl (fun K hK => ?_) AllReadyH.nil
              go_simp
              refine (HH.out _).mono ?_
              rintro e w3 ⟨rfl, hB3⟩
              have hBa : Below wo.heap.size wo ((wo.alloc (.cells #[.int .u8 (m : Int)] 5)).drew) := ((Below.refl _ wo).alloc (Nat.le_refl _) _).drew
              have hB3' : Below wo.heap.size wo w3 := hBa.trans (hB3.mono hBa.size)
              refine hK.out _ _ ?_ (fun hHeld => ?_)
              · exact hB3'
              clear hK K
              try simp only [Act.put, List.getElem_toArray, List.getElem_cons_succ, List.getElem_cons_zero, List.setIfInBounds_toArray, List.set_cons_zero, List.set_cons_succ]
              refine wpAnyH_take (i := 10) (v := ?_) rfl (by kernel_rfl) (by kernel_rfl) (by kernel_rfl) (fun _ _ _ h => h) (Or.inl ⟨by kernel_rfl, ?_⟩) (by assumption) ?_
              rotate_left
              · (intro w hSw; (try dsimp only at hSw); go_simp); (try with_reducible rfl)
              try simp only [Act.put, List.getElem_toArray, List.getElem_cons_succ, List.getElem_cons_zero, List.setIfInBounds_toArray, List.set_cons_zero, List.set_cons_succ]
              refine wpAnyH_done (by kernel_rfl) ?_ _
              refine NoPanic.normal ?_
              have hRw := hR.below hB3' hR.lt
              have hNw := hN.below hB3' hN.lt
              have hBw := hB.trans (hB3'.mono hB.size)
              have hcc := hRw.cell m hm256
              have hcf := hRw.fz m
              go_wp2
              go_roundw
              case rel =>
                refine ⟨m + 1, by omega, by simp, (hRw.set m true).congr HC.out, ?_, hBw.setCell (p := ⟨w.heap.size + 1, m, none⟩) (by simp) _⟩
                exact hNw.grown (row := some (w.heap.size + 1)) ⟨rfl, rfl, rfl, by simp [World.setCell], fun k hk hr => Below.heap_setCell _ _ _ _ (fun q => hr (by rw [q]))⟩ (by simp)
              case measure => (simp [RowKit.intOf]) <;> omega
            · have he1 : (Hm == T2) = false := by simpa using he
              have HC : Hid (∀ i, i < 256 → (F i || decide (i < m ∧ hexl [UInt8.ofNat i] = T2)) = (F i || decide (i < m + 1 ∧ hexl [UInt8.ofNat i] = T2))) := Lib.hid (fun i hi => by
                congr 2; simp only [eq_iff_iff]; constructor
                · rintro ⟨q, r⟩; exact ⟨by omega, r⟩
                · rintro ⟨q, r⟩
                  refine ⟨?_, r⟩
                  rcases Nat.lt_or_ge i m with q' | q'
                  · exact q'
                  · obtain rfl : i = m := by omega
                    exact absurd (hHm.trans r) he)
              clear hHm HH0 he
              go_wp2_with fail
              refine wp_region_noPanic ?_
              refine wp_region_held_drew (S := fun w' => Below wo.heap.size wo w') (by kernel_rfl) ?_ (fun hHeld => ?_)
              · (try dsimp only); exact (Below.refl _ wo).drew
              refine wpAnyH_take (i := 0) (v := ?_) rfl (by kernel_rfl) (by kernel_rfl) (by kernel_rfl) (fun _ _ _ h => h) (Or.inl ⟨by kernel_rfl, ?_⟩) (by assumption) ?_
              rotate_left
              · (intro w hSw; (try dsimp only at hSw); go_simp); (try with_reducible rfl)
              try simp only [Act.put, List.getElem_toArray, List.getElem_cons_succ, List.getElem_cons_zero, List.setIfInBounds_toArray, List.set_cons_zero, List.set_cons_succ]
              refine wpAnyH_take (i := 1) (v := ?_) rfl (by kernel_rfl) (by kernel_rfl) (by kernel_rfl) (fun _ _ _ h => h) (Or.inl ⟨by kernel_rfl, ?_⟩) (by assumption) ?_
              rotate_left
              · (intro w hSw; (try dsimp only at hSw); go_simp); (try with_reducible rfl)
              try simp only [Act.put, List.getElem_toArray, List.getElem_cons_succ, List.getElem_cons_zero, List.setIfInBounds_toArray, List.set_cons_zero, List.set_cons_succ]
              refine wpAnyH_take (i := 5) (v := ?_) rfl (by kernel_rfl) (by kernel_rfl) (by kernel_rfl) (fun _ _ _ h => h) (Or.inl ⟨by kernel_rfl, ?_⟩) (by assumption) ?_
              rotate_left
              · (intro w hSw; (try dsimp only at hSw); go_simp); (try with_reducible rfl)
              try simp only [Act.put, List.getElem_toArray, List.getElem_cons_succ, List.getElem_cons_zero, List.setIfInBounds_toArray, List.set_cons_zero, List.set_cons_succ]
              refine wpAnyH_take (i := 6) (v := ?_) rfl (by kernel_rfl) (by kernel_rfl) (by kernel_rfl) (fun _ _ _ h => h) (Or.inl ⟨by kernel_rfl, ?_⟩) (by assumption) ?_
              rotate_left
              · (intro w hSw; (try dsimp only at hSw); go_simp); (try with_reducible rfl)
              try simp only [Act.put, List.getElem_toArray, List.getElem_cons_succ, List.getElem_cons_zero, List.setIfInBounds_toArray, List.set_cons_zero, List.set_cons_succ]
              refine wpAnyH_take (i := 7) (v := ?_) rfl (by kernel_rfl) (by kernel_rfl) (by kernel_rfl) (fun _ _ _ h => h) (Or.inl ⟨by kernel_rfl, ?_⟩) (by assumption) ?_
              rotate_left
              · (intro w hSw; (try dsimp only at hSw); go_simp); (try with_reducible rfl)
              try simp only [Act.put, List.getElem_toArray, List.getElem_cons_succ, List.getElem_cons_zero, List.setIfInBounds_toArray, List.set_cons_zero, List.set_cons_succ]
              refine wpAnyH_take (i := 8) (v := ?_) rfl (by kernel_rfl) (by kernel_rfl) (by kernel_rfl) (fun _ _ _ h => h) (Or.inl ⟨by kernel_rfl, ?_⟩) (by assumption) ?_
              rotate_left
              · (intro w hSw; (try dsimp only at hSw); go_simp); (try with_reducible rfl)
              try simp only [Act.put, List.getElem_toArray, List.getElem_cons_succ, List.getElem_cons_zero, List.setIfInBounds_toArray, List.set_cons_zero, List.set_cons_succ]
              refine wpAnyH_take (i := 9) (v := ?_) rfl (by kernel_rfl) (by kernel_rfl) (by kernel_rfl) (fun _ _ _ h => h) (Or.inl ⟨by kernel_rfl, ?_⟩) (by assumption) ?_
              rotate_left
              · (intro w hSw; (try dsimp only at hSw); go_simp); (try with_reducible rfl)
              try simp only [Act.put, List.getElem_toArray, List.getElem_cons_succ, List.getElem_cons_zero, List.setIfInBounds_toArray, List.set_cons_zero, List.set_cons_succ]
              refine wpAnyH_ready (rs := [2]) (by kernel_rfl) (by simp) ?_
              refine AllReadyH.cons rfl (fun K hK => ?_) AllReadyH.nil
              go_simp
              refine hK.out _ _ ?_ (fun hHeld => ?_)
              · exact ((Below.refl _ wo).alloc (Nat.le_refl _) _).drew
              clear hK K
              try simp only [Act.put, List.getElem_toArray, List.getElem_cons_succ, List.getElem_cons_zero, List.setIfInBounds_toArray, List.set_cons_zero, List.set_cons_succ]
              refine wpAnyH_ready (rs := [3]) (by kernel_rfl) (by simp) ?_
              refine AllReadyH.cons rfl (fun K hK => ?_) AllReadyH.nil
              have hcv := conv1 m hm256 wo.heap.size ((wo.alloc (.cells #[.int .u8 (m : Int)] 5)).drew) (by
                have hh : ((wo.alloc (.cells #[.int .u8 (m : Int)] 5)).drew).heap[wo.heap.size]? = some (.cells #[.int .u8 (m : Int)] 5 (0, 0)) := heap_new wo _
                rw [cell_of _ _ _ _ hh]; rfl)
              go_simp
              refine hK.out _ _ ?_ (fun hHeld => ?_)
              · exact ((Below.refl _ wo).alloc (Nat.le_refl _) _).drew
              clear hK K hcv
              try simp only [Act.put, List.getElem_toArray, List.getElem_cons_succ, List.getElem_cons_zero, List.setIfInBounds_toArray, List.set_cons_zero, List.set_cons_succ]
              refine wpAnyH_ready (rs := [4]) (by kernel_rfl) (by simp) ?_
              refine AllReadyH.cons rfl (fun K hK => ?_) AllReadyH.nil
              go_simp
              refine (HH.out _).mono ?_
              rintro e w3 ⟨rfl, hB3⟩
              have hBa : Below wo.heap.size wo ((wo.alloc (.cells #[.int .u8 (m : Int)] 5)).drew) := ((Below.refl _ wo).alloc (Nat.le_refl _) _).drew
              have hB3' : Below wo.heap.size wo w3 := hBa.trans (hB3.mono hBa.size)
              refine hK.out _ _ ?_ (fun hHeld => ?_)
              · exact hB3'
              clear hK K
              try simp only [Act.put, List.getElem_toArray, List.getElem_cons_succ, List.getElem_cons_zero, List.setIfInBounds_toArray, List.set_cons_zero, List.set_cons_succ]
              refine wpAnyH_take (i := 10) (v := ?_) rfl (by kernel_rfl) (by kernel_rfl) (by kernel_rfl) (fun _ _ _ h => h) (Or.inl ⟨by kernel_rfl, ?_⟩) (by assumption) ?_
              rotate_left
              · (intro w hSw; (try dsimp only at hSw); go_simp); (try with_reducible rfl)
              try simp only [Act.put, List.getElem_toArray, List.getElem_cons_succ, List.getElem_cons_zero, List.setIfInBounds_toArray, List.set_cons_zero, List.set_cons_succ]
              refine wpAnyH_done (by kernel_rfl) ?_ _
              refine NoPanic.normal ?_
              have hRw := hR.below hB3' hR.lt
              have hNw := hN.below hB3' hN.lt
              have hBw := hB.trans (hB3'.mono hB.size)
              go_wp2
              go_roundw
              case rel => exact ⟨m + 1, by omega, by simp, hRw.congr HC.out, hNw, hBw⟩
              case measure => (simp [RowKit.intOf]) <;> omega
          · obtain rfl : m = 256 := by omega
            go_wp2
            go_roundw
            case rel => exact ⟨p + 2, fu, _, by simp, by omega, by omega, by omega, hrs, hR, hN, hB⟩
            case measure => (simp [RowKit.intOf]) <;> omega
    · have t1 : ((p : Int) + 1 < s.length) = False := by simp; omega
      by_cases hp2 : p < s.length
      · have t2 : ((s.length : Int) ≤ p) = False := by simp; omega
        obtain ⟨c, hc⟩ : ∃ c, s[p]? = some c := ⟨s[p], List.getElem?_eq_getElem hp2⟩
        have hxc := HX.out p c hc
        by_cases hc93 : c = 93
        · subst hc93
          have RBV : rbr s (fu + 1) p F = some (F, p) := by
            rw [rbr, if_neg (by rintro ⟨q, _⟩; exact hp1 q), if_pos hc]
          have hxd : ∀ w, (Instr.index 9 (.string ⟨s.toArray⟩) (.int .i64 (p : Int))).run Tryd.prog w = .ok (.int .u8 93) w := hxc
          clear hxc hc HX HS2 HH0
          go_wp2_with fail
          refine wp_load_row hR rfl rfl ?_
          go_wp2_with fail
          refine (HW.out F _).mono ?_
          rintro e w3 ⟨rfl, hB3⟩
          have hN3 := hN.below hB3 hN.lt
          have hBB := hB.trans (hB3.mono hB.size)
          obtain ⟨wo, rfl⟩ : ∃ wo, wo = w3 := ⟨_, rfl⟩
          have hs3 := hN3.lt
          have k1 : wo.cell? ⟨w.heap.size, 1, none⟩ = some (.int .u64 0) := (hN3.c 1).trans rfl
          have k2 : wo.cell? ⟨w.heap.size, 2, none⟩ = some (.int .u64 0) := (hN3.c 2).trans rfl
          have k3 : wo.cell? ⟨w.heap.size, 3, none⟩ = some (.int .u64 0) := (hN3.c 3).trans rfl
          have k4 : wo.cell? ⟨w.heap.size, 4, none⟩ = some (.int .u64 0) := (hN3.c 4).trans rfl
          have f1 := hN3.fz 1
          have f2 := hN3.fz 2
          have f3 := hN3.fz 3
          have f4 := hN3.fz 4
          obtain ⟨a0, ha0⟩ : ∃ a0, a0 = wd F 0 := ⟨_, rfl⟩
          obtain ⟨a1, ha1⟩ : ∃ a1, a1 = wd F 1 := ⟨_, rfl⟩
          obtain ⟨a2, ha2⟩ : ∃ a2, a2 = wd F 2 := ⟨_, rfl⟩
          obtain ⟨a3, ha3⟩ : ∃ a3, a3 = wd F 3 := ⟨_, rfl⟩
          have hset : setNd F = ⟨1, a0, a1, a2, a3, 0, 0, 0, 0, 0⟩ := by rw [ha0, ha1, ha2, ha3]; rfl
          simp only [sv, ← ha0, ← ha1, ← ha2, ← ha3]
          have HR : Hid (rr s (f + 1) a xs g = some (xs ++ [⟨1, a0, a1, a2, a3, 0, 0, 0, 0, 0⟩], g, p + 1)) := Lib.hid (HRR.out.trans (by rw [← hrb.out, RBV, Option.map_some, hset]))
          have hN5 := hN3.setS a0 a1 a2 a3
          have hrow3 : RRow wo 0 v xs.length xs := own_kept HG.out hne (grown_of_below hBB)
          have hrow5 : RRow ((((wo.setCell ⟨w.heap.size, 1, none⟩ (.int .u64 (a0 : Int))).setCell ⟨w.heap.size, 2, none⟩ (.int .u64 (a1 : Int))).setCell ⟨w.heap.size, 3, none⟩ (.int .u64 (a2 : Int))).setCell ⟨w.heap.size, 4, none⟩ (.int .u64 (a3 : Int))) 0 v xs.length xs := own_set (own_set (own_set (own_set hrow3 (p := ⟨w.heap.size, 1, none⟩) hne _) (p := ⟨w.heap.size, 2, none⟩) hne _) (p := ⟨w.heap.size, 3, none⟩) hne _) (p := ⟨w.heap.size, 4, none⟩) hne _
          have hg5 : w.grownBy ((((wo.setCell ⟨w.heap.size, 1, none⟩ (.int .u64 (a0 : Int))).setCell ⟨w.heap.size, 2, none⟩ (.int .u64 (a1 : Int))).setCell ⟨w.heap.size, 3, none⟩ (.int .u64 (a2 : Int))).setCell ⟨w.heap.size, 4, none⟩ (.int .u64 (a3 : Int))) v.ownBlock := grown_set (grown_set (grown_set (grown_set (grown_of_below hBB) (p := ⟨w.heap.size, 1, none⟩) (Nat.le_refl _) _) (p := ⟨w.heap.size, 2, none⟩) (Nat.le_refl _) _) (p := ⟨w.heap.size, 3, none⟩) (Nat.le_refl _) _) (p := ⟨w.heap.size, 4, none⟩) (Nat.le_refl _) _
          have z0 : World.cell? ((((wo.setCell ⟨w.heap.size, 1, none⟩ (.int .u64 (a0 : Int))).setCell ⟨w.heap.size, 2, none⟩ (.int .u64 (a1 : Int))).setCell ⟨w.heap.size, 3, none⟩ (.int .u64 (a2 : Int))).setCell ⟨w.heap.size, 4, none⟩ (.int .u64 (a3 : Int))) ⟨w.heap.size, 0, none⟩ = some (.int .i64 (1)) := (hN5.c 0).trans rfl
          have z1 : World.cell? ((((wo.setCell ⟨w.heap.size, 1, none⟩ (.int .u64 (a0 : Int))).setCell ⟨w.heap.size, 2, none⟩ (.int .u64 (a1 : Int))).setCell ⟨w.heap.size, 3, none⟩ (.int .u64 (a2 : Int))).setCell ⟨w.heap.size, 4, none⟩ (.int .u64 (a3 : Int))) ⟨w.heap.size, 1, none⟩ = some (.int .u64 (a0)) := (hN5.c 1).trans rfl
          have z2 : World.cell? ((((wo.setCell ⟨w.heap.size, 1, none⟩ (.int .u64 (a0 : Int))).setCell ⟨w.heap.size, 2, none⟩ (.int .u64 (a1 : Int))).setCell ⟨w.heap.size, 3, none⟩ (.int .u64 (a2 : Int))).setCell ⟨w.heap.size, 4, none⟩ (.int .u64 (a3 : Int))) ⟨w.heap.size, 2, none⟩ = some (.int .u64 (a1)) := (hN5.c 2).trans rfl
          have z3 : World.cell? ((((wo.setCell ⟨w.heap.size, 1, none⟩ (.int .u64 (a0 : Int))).setCell ⟨w.heap.size, 2, none⟩ (.int .u64 (a1 : Int))).setCell ⟨w.heap.size, 3, none⟩ (.int .u64 (a2 : Int))).setCell ⟨w.heap.size, 4, none⟩ (.int .u64 (a3 : Int))) ⟨w.heap.size, 3, none⟩ = some (.int .u64 (a2)) := (hN5.c 3).trans rfl
          have z4 : World.cell? ((((wo.setCell ⟨w.heap.size, 1, none⟩ (.int .u64 (a0 : Int))).setCell ⟨w.heap.size, 2, none⟩ (.int .u64 (a1 : Int))).setCell ⟨w.heap.size, 3, none⟩ (.int .u64 (a2 : Int))).setCell ⟨w.heap.size, 4, none⟩ (.int .u64 (a3 : Int))) ⟨w.heap.size, 4, none⟩ = some (.int .u64 (a3)) := (hN5.c 4).trans rfl
          have z5 : World.cell? ((((wo.setCell ⟨w.heap.size, 1, none⟩ (.int .u64 (a0 : Int))).setCell ⟨w.heap.size, 2, none⟩ (.int .u64 (a1 : Int))).setCell ⟨w.heap.size, 3, none⟩ (.int .u64 (a2 : Int))).setCell ⟨w.heap.size, 4, none⟩ (.int .u64 (a3 : Int))) ⟨w.heap.size, 5, none⟩ = some (.int .i64 (0)) := (hN5.c 5).trans rfl
          have z6 : World.cell? ((((wo.setCell ⟨w.heap.size, 1, none⟩ (.int .u64 (a0 : Int))).setCell ⟨w.heap.size, 2, none⟩ (.int .u64 (a1 : Int))).setCell ⟨w.heap.size, 3, none⟩ (.int .u64 (a2 : Int))).setCell ⟨w.heap.size, 4, none⟩ (.int .u64 (a3 : Int))) ⟨w.heap.size, 6, none⟩ = some (.int .i64 (0)) := (hN5.c 6).trans rfl
          have z7 : World.cell? ((((wo.setCell ⟨w.heap.size, 1, none⟩ (.int .u64 (a0 : Int))).setCell ⟨w.heap.size, 2, none⟩ (.int .u64 (a1 : Int))).setCell ⟨w.heap.size, 3, none⟩ (.int .u64 (a2 : Int))).setCell ⟨w.heap.size, 4, none⟩ (.int .u64 (a3 : Int))) ⟨w.heap.size, 7, none⟩ = some (.int .i64 (0)) := (hN5.c 7).trans rfl
          have z8 : World.cell? ((((wo.setCell ⟨w.heap.size, 1, none⟩ (.int .u64 (a0 : Int))).setCell ⟨w.heap.size, 2, none⟩ (.int .u64 (a1 : Int))).setCell ⟨w.heap.size, 3, none⟩ (.int .u64 (a2 : Int))).setCell ⟨w.heap.size, 4, none⟩ (.int .u64 (a3 : Int))) ⟨w.heap.size, 8, none⟩ = some (.int .i64 (0)) := (hN5.c 8).trans rfl
          have z9 : World.cell? ((((wo.setCell ⟨w.heap.size, 1, none⟩ (.int .u64 (a0 : Int))).setCell ⟨w.heap.size, 2, none⟩ (.int .u64 (a1 : Int))).setCell ⟨w.heap.size, 3, none⟩ (.int .u64 (a2 : Int))).setCell ⟨w.heap.size, 4, none⟩ (.int .u64 (a3 : Int))) ⟨w.heap.size, 9, none⟩ = some (.int .i64 (0)) := (hN5.c 9).trans rfl
          have hN6 := NR.new ((((wo.setCell ⟨w.heap.size, 1, none⟩ (.int .u64 (a0 : Int))).setCell ⟨w.heap.size, 2, none⟩ (.int .u64 (a1 : Int))).setCell ⟨w.heap.size, 3, none⟩ (.int .u64 (a2 : Int))).setCell ⟨w.heap.size, 4, none⟩ (.int .u64 (a3 : Int))) ⟨1, a0, a1, a2, a3, 0, 0, 0, 0, 0⟩
          rw [size_set, size_set, size_set, size_set] at hN6
          have HN6 := Lib.hid hN6
          have HO := Lib.hid hrow5
          have HG5 := Lib.hid hg5
          have hsw : ((((wo.setCell ⟨w.heap.size, 1, none⟩ (.int .u64 (a0 : Int))).setCell ⟨w.heap.size, 2, none⟩ (.int .u64 (a1 : Int))).setCell ⟨w.heap.size, 3, none⟩ (.int .u64 (a2 : Int))).setCell ⟨w.heap.size, 4, none⟩ (.int .u64 (a3 : Int))).heap.size = wo.heap.size := by rw [size_set, size_set, size_set, size_set]
          have HSW := Lib.hid hsw
          clear hsw hN6 hrow5 hrow3 hg5 hN5 hN3 hB3 hBB hset ha0 ha1 ha2 ha3 RBV hrb HRR HW HG hB hR hN
          go_wp2_with (at_builtin; refine wpList_append_own_at _ rfl _ _ 27 rfl 0 47 i0 (.agg #[.int .i64 0, .int .u64 0, .int .u64 0, .int .u64 0, .int .u64 0, .int .i64 0, .int .i64 0, .int .i64 0, .int .i64 0, .int .i64 0]) 10 80 Tryd.underlying27 hi hz0 hz1 hz2 rfl (by decide) _ _ _ rfl (World.ownsRow.alloc HO.out _) ⟨wo.heap.size, 0, none⟩ 1 1 (Nd.cells ⟨1, a0, a1, a2, a3, 0, 0, 0, 0, 0⟩).toList rfl rfl ?qc2 ?qc3 ?qc4 ?qc5 ?qc6 ?_)
          case qc3 => exact one_cells _
          case qc4 => unfold maxLen; omega
          case qc5 => omega
          case qc6 => exact Nat.zero_le _
          case qc2 =>
            intro j u hj
            rw [Addr.add_lit, Nat.zero_add]
            refine (HN6.out.c j).trans ?_
            simpa using hj
          intro v' w6 hown6 hgrow hnil hat
          have h1 : RRow w6 0 v' (xs.length + 1) (xs ++ [⟨1, a0, a1, a2, a3, 0, 0, 0, 0, 0⟩]) := by unfold RRow; rw [flat_app]; exact hown6
          have hat6 : v'.ownBlock = v.ownBlock ∨ ∃ b, v'.ownBlock = some b ∧ w.heap.size ≤ b := by
            rcases hat with e | e
            · exact .inl e
            · exact .inr ⟨_, e, by first | omega | (simp [World.setCell] <;> omega)⟩
          have hgr6 : w.grownBy w6 v.ownBlock := grown_more (grown_alloc HG5.out _) (m := w.heap.size) (Nat.le_refl _) (.inl rfl) hgrow
          clear hown6 hgrow hnil hat HG5 HO HN6 z0 z1 z2 z3 z4 z5 z6 z7 z8 z9 k1 k2 k3 k4 f1 f2 f3 f4 HSW
          go_wp2
          refine bodyPost_ret (v := .tuple #[v', .int .i64 (g : Int), .int .i64 ((p : Int) + 1)]) (by simp [results, Tryd.results14, go_sem]) rfl ?_
          exact RdP.ok HR.out rfl (by simp) (by simp) hgr6 h1 hat6
        · have hcn : ((c.toNat : Int) != 93) = true := by
            rw [bne_iff_ne]; intro e
            exact hc93 (UInt8.toNat_inj.1 (by show c.toNat = 93; omega))
          have RBV : rbr s (fu + 1) p F = none := by
            rw [rbr, if_neg (by rintro ⟨q, _⟩; exact hp1 q), if_neg (by rw [hc]; simpa using hc93)]
          clear hc hc93 HX HS2 HH0
          generalize c.toNat = C at *
          have HR : Hid (rr s (f + 1) a xs g = none) := Lib.hid (HRR.out.trans (by rw [← hrb.out, RBV]; rfl))
          have HG5 : w.grownBy wr v.ownBlock := grown_of_below hB
          clear RBV hrb HRR HW HG hB hR hN
          go_wp2
          refine bodyPost_ret (v := .tuple #[v, .int .i64 (g : Int), .int .i64 (-1)]) (by simp [results, Tryd.results14, go_sem]) rfl ?_
          exact RdP.bad HR.out HG5
      · have t2 : ((s.length : Int) ≤ p) = True := by simp; omega
        have RBV : rbr s (fu + 1) p F = none := by
          rw [rbr, if_neg (by rintro ⟨q, _⟩; exact hp1 q), if_neg (by rw [List.getElem?_eq_none (by omega)]; simp)]
        clear HX HS2 HH0
        have HR : Hid (rr s (f + 1) a xs g = none) := Lib.hid (HRR.out.trans (by rw [← hrb.out, RBV]; rfl))
        have HG5 : w.grownBy wr v.ownBlock := grown_of_below hB
        clear RBV hrb HRR HW HG hB hR hN
        go_wp2
        refine bodyPost_ret (v := .tuple #[v, .int .i64 (g : Int), .int .i64 (-1)]) (by simp [results, Tryd.results14, go_sem]) rfl ?_
        exact RdP.bad HR.out HG5

end Go.Proofs.YthcgboebmhabeaaDoor

namespace Go.Proofs.YthcgboebmhabeaaDoor
open Go.RowKit Go.Lib
set_option linter.unusedVariables false
set_option linter.unusedSimpArgs false

set_option maxRecDepth 100000 in
set_option maxHeartbeats 8000000 in
theorem read_deep (s : List UInt8) (hl : s.length ≤ 100000) (a g : Nat) (xs : List Nd) (v : Value) (w : World) :
    Calls Tryd.prog 14 #[.string ⟨s.toArray⟩, .int .i64 (a : Int), v, .int .i64 (g : Int), .int .i64 ((131 : Nat) : Int)] w (RdP w v (rr s 0 a xs g)) := by
  have hgr : w.grownBy w v.ownBlock := grown_refl w _
  have HR : Hid (rr s 0 a xs g = none) := Lib.hid rfl
  by_cases hlt : a < s.length
  · have g1 : ((s.length : Int) ≤ a) = False := by simp; omega
    go_enter Tryd.func14, Tryd.ntmps14
    go_wp2
    refine bodyPost_ret (v := .tuple #[v, .int .i64 (g : Int), .int .i64 (-1)]) (by simp [results, Tryd.results14, go_sem]) rfl ?_
    exact RdP.bad HR.out hgr
  · have g1 : ((s.length : Int) ≤ a) = True := by simp; omega
    go_enter Tryd.func14, Tryd.ntmps14
    go_wp2
    refine bodyPost_ret (v := .tuple #[v, .int .i64 (g : Int), .int .i64 (-1)]) (by simp [results, Tryd.results14, go_sem]) rfl ?_
    exact RdP.bad HR.out hgr

theorem rdc_all (s : List UInt8) (hl : s.length ≤ 100000) : ∀ f, f ≤ 131 → RdC s f
  | 0, _ => fun d a g xs v w hd hg hx ha hrow => by
    obtain rfl : d = 131 := by omega
    exact read_deep s hl a g xs v w
  | f + 1, hf => fun d a g xs v w hd hg hx ha hrow => by
    have H := rdc_all s hl f (by omega)
    by_cases hlt : a < s.length
    · obtain ⟨c, hc⟩ : ∃ c, s[a]? = some c := ⟨s[a], List.getElem?_eq_getElem hlt⟩
      by_cases h1 : c = 101
      · subst h1; exact read_e s hl f d a g (by omega) xs v w hg hx hrow hc
      by_cases h2 : c = 94
      · subst h2; exact read_b s hl f d a g (by omega) xs v w hg hx hrow hc
      by_cases h3 : c = 36
      · subst h3; exact read_d s hl f d a g (by omega) xs v w hg hx hrow hc
      by_cases h4 : c = 91
      · subst h4; exact read_br s hl f d a g (by omega) xs v w hg hx hrow hc
      by_cases h5 : c = 38
      · subst h5; exact read_cat s hl f d a g (by omega) xs v w hg hx hrow H hc
      by_cases h6 : c = 124
      · subst h6; exact read_alt s hl f d a g (by omega) xs v w hg hx hrow H hc
      by_cases h7 : c = 42
      · subst h7; exact read_times s hl f d a g (by omega) xs v w hg hx hrow H hc
      by_cases h8 : c = 40
      · subst h8; exact read_group s hl f d a g (by omega) xs v w hg hx hrow H hc
      by_cases h9 : c = 92
      · subst h9; exact read_ref s hl f d a g (by omega) xs v w hg hx hrow hc
      exact read_other s hl f d a g (by omega) xs v w hg hx hrow c hc h1 h2 h3 h4 h5 h6 h7 h8 h9
    · exact read_end s hl f d a g (by omega) xs v w hg hx hrow (by omega)

end Go.Proofs.YthcgboebmhabeaaDoor
