/- The walk of MatchAlts. -/
import Derived.Test.YtibkllialokdeaaGreatDoorDMdR
import Derived.Test.YtibkllialokdeaaGreatDoorRows
import Derived.Test.YtibkllialokdeaaGreatDoorTie
import Derived.Test.YtibkllialokdeaaGreatDoorCards
set_option linter.unusedVariables false
set_option linter.unusedSimpArgs false
set_option maxRecDepth 100000
set_option maxHeartbeats 40000000
namespace Go.Proofs.YtibkllialokdeaaGreatDoor
open Go.RowKit Go.Lib Go.Maps Go.WideMaps
theorem flat_app (xs ys : List Nd) : flat (xs ++ ys) = flat xs ++ flat ys := by unfold flat; exact List.flatMap_append
theorem flat_one (x : Nd) : flat [x] = x.cells.toList := by simp [flat]
theorem own_nodes {w : World} {B : Nat} {v : Value} {xs : List Nd} (h : w.ownsRow B 57 10 v xs.length (flat xs)) (hp : 0 < xs.length) :
  ∃ g cap, v = .slice (some ⟨g, 0, none⟩) xs.length cap ∧ NodesAt w g 0 xs := by
 rcases h.2 with ⟨_, h0⟩ | ⟨g, cap, cur, rfl, hg, hb, _, _, hc, ht⟩
 ·omega
 ·refine ⟨g, cap, rfl, (Array.getElem?_eq_some_iff.1 hb).1, fun i x hx j u hj => ?_⟩
  have hi : i < xs.length := (List.getElem?_eq_some_iff.1 hx).1
  have hj10 : j < 10 := by
   have := (Array.getElem?_eq_some_iff.1 hj).1
   simpa [Nd.cells] using this
  rw [cell_of _ _ _ _ hb, Nat.zero_add]
  have e1 := flat_get xs i j x hx hj10
  rw [hj] at e1
  have : (cur.toList.take (xs.length * 10))[i * 10 + j]? = (flat xs)[i * 10 + j]? := by rw [ht]
  rw [List.getElem?_take_of_lt (by omega), e1] at this
  rw [← this]
  simp
theorem two_new (w : World) (z : Nd) (j : Nat) : ((w.alloc (.cells z.cells 57)).alloc (.cells z.cells 57)).cell? ⟨w.heap.size + 1, j, none⟩ = z.cells[j]? := by
 have hh : ((w.alloc (.cells z.cells 57)).alloc (.cells z.cells 57)).heap[w.heap.size + 1]? = some (.cells z.cells 57 (0, 0)) := by
  have := heap_new (w.alloc (.cells z.cells 57)) (.cells z.cells 57)
  rw [World.size_alloc] at this
  exact this
 rw [cell_of _ _ _ _ hh]
theorem one_new (w : World) (z : Nd) (j : Nat) : (w.alloc (.cells z.cells 57)).cell? ⟨w.heap.size, j, none⟩ = z.cells[j]? := by
 rw [cell_of _ _ _ _ (heap_new w (.cells z.cells 57))]
theorem joint_fits {xs ys : List Nd} (fX : ∀ (i : Nat) (x : Nd), xs[i]? = some x → x.Fits) (fY : ∀ (i : Nat) (x : Nd), ys[i]? = some x → x.Fits) (lx : xs.length ≤ 1000) (ly : ys.length ≤ 1000)
  (hin : ∀ (j : Nat) (y : Nd), ys[j]? = some y → ((y.kind = 4 ∨ y.kind = 5) → 0 ≤ y.a ∧ y.a ≤ 1000 ∧ 0 ≤ y.b ∧ y.b ≤ 1000) ∧ (y.kind = 6 → 0 ≤ y.a ∧ y.a ≤ 1000)) :
  ∀ (i : Nat) (x : Nd), (joint xs ys)[i]? = some x → x.Fits := fun i x hx => by
 rcases joint_cases hx with ⟨_, h⟩ | ⟨j, y, _, hy, rfl⟩ | rfl
 ·exact fX i x h
 ·have f := fY j y hy
  have h := hin j y hy
  refine ⟨f.k, f.s0, f.s1, f.s2, f.s3, ?_, ?_, f.mn, f.mx, f.n⟩
  ·show _ ≤ (if y.kind = 4 ∨ y.kind = 5 ∨ y.kind = 6 then y.a + xs.length else y.a) ∧ (if y.kind = 4 ∨ y.kind = 5 ∨ y.kind = 6 then y.a + xs.length else y.a) ≤ _
   split
   ·rename_i q
    by_cases q6 : y.kind = 6
    ·have := h.2 q6; omega
    ·have := h.1 (by omega); omega
   ·exact f.a
  ·show _ ≤ (if y.kind = 4 ∨ y.kind = 5 then y.b + xs.length else y.b) ∧ (if y.kind = 4 ∨ y.kind = 5 then y.b + xs.length else y.b) ≤ _
   split
   ·rename_i q
    have := h.1 q; omega
   ·exact f.b
 ·have z : (-9223372036854775808 : Int) ≤ 0 ∧ (0 : Int) ≤ 9223372036854775807 := by omega
  exact ⟨(by show (-9223372036854775808 : Int) ≤ 5 ∧ (5 : Int) ≤ 9223372036854775807; omega), (by show 0 < 18446744073709551616; omega), (by show 0 < 18446744073709551616; omega), (by show 0 < 18446744073709551616; omega), (by show 0 < 18446744073709551616; omega), (by show (-9223372036854775808 : Int) ≤ (xs.length : Int) - 1 ∧ (xs.length : Int) - 1 ≤ 9223372036854775807; omega), (by show (-9223372036854775808 : Int) ≤ (xs.length : Int) + ys.length - 1 ∧ (xs.length : Int) + ys.length - 1 ≤ 9223372036854775807; omega), z, z, z⟩
theorem cells_one (x : Nd) : ∀ u ∈ x.cells.toList, u.oneCell' = true := fun u hu => by
 simp [Nd.cells] at hu
 rcases hu with rfl | rfl | rfl | rfl | rfl | rfl | rfl | rfl | rfl | rfl <;> rfl
theorem flat_ones (xs : List Nd) : ∀ u ∈ flat xs, u.oneCell' = true := fun u hu => by
 simp only [flat, List.mem_flatMap] at hu
 obtain ⟨x, _, hx⟩ := hu
 exact cells_one x u hx
theorem alts_1 (pa : Option Addr) (na ca : Nat) (pb : Option Addr) (nb cb : Nat) (s : List UInt8) (i : Nat) (w : World) (h0 : (∀ W, Below w.heap.size w W → Calls Tryz.prog 9 #[.slice pa na ca, .string ⟨s.toArray⟩] W fun e w' => e = .returned (.bool false) ∧ Below W.heap.size W w')) (hsh : (∀ W, Below w.heap.size w W → Calls Tryz.prog 10 #[] W fun e w' => e = .returned (.bool true) ∧ Below W.heap.size W w')) :
  Calls Tryz.prog 8 #[.slice pa na ca, .slice pb nb cb, .string ⟨s.toArray⟩, .int .u8 (i : Int)] w fun e w' => e = .returned (.bool true) ∧ Below w.heap.size w w' := by
 have HB0 := Lib.hid (Below.refl w.heap.size w)
 have H0 := Lib.hid h0
 have HSH := Lib.hid hsh
 clear hsh h0
 go_enter Tryz.func8, Tryz.ntmps8
 go_wp2_with fail
 refine (H0.out _ HB0.out).mono ?_
 rintro e w1 ⟨rfl, hB⟩
 have HB1 := Lib.hid (HB0.out.trans (hB.mono HB0.out.size))
 clear hB
 go_wp2_with fail
 refine (HSH.out _ HB1.out).mono ?_
 rintro e w2 ⟨rfl, hB⟩
 have HB2 := Lib.hid (HB1.out.trans (hB.mono HB1.out.size))
 clear hB
 go_wp2
 go_ret
 exact ⟨rfl, HB2.out⟩
theorem alts_2 (pa : Option Addr) (na ca : Nat) (pb : Option Addr) (nb cb : Nat) (s : List UInt8) (i : Nat) (w : World) (h0 : (∀ W, Below w.heap.size w W → Calls Tryz.prog 9 #[.slice pa na ca, .string ⟨s.toArray⟩] W fun e w' => e = .returned (.bool true) ∧ Below W.heap.size W w')) (h1 : (∀ W, Below w.heap.size w W → Calls Tryz.prog 9 #[.slice pb nb cb, .string ⟨s.toArray⟩] W fun e w' => e = .returned (.bool false) ∧ Below W.heap.size W w')) (hsh : (∀ W, Below w.heap.size w W → Calls Tryz.prog 10 #[] W fun e w' => e = .returned (.bool true) ∧ Below W.heap.size W w')) :
  Calls Tryz.prog 8 #[.slice pa na ca, .slice pb nb cb, .string ⟨s.toArray⟩, .int .u8 (i : Int)] w fun e w' => e = .returned (.bool true) ∧ Below w.heap.size w w' := by
 have HB0 := Lib.hid (Below.refl w.heap.size w)
 have H0 := Lib.hid h0
 have H1 := Lib.hid h1
 have HSH := Lib.hid hsh
 clear hsh h0 h1
 go_enter Tryz.func8, Tryz.ntmps8
 go_wp2_with fail
 refine (H0.out _ HB0.out).mono ?_
 rintro e w1 ⟨rfl, hB⟩
 have HB1 := Lib.hid (HB0.out.trans (hB.mono HB0.out.size))
 clear hB
 go_wp2_with fail
 refine (H1.out _ HB1.out).mono ?_
 rintro e w2 ⟨rfl, hB⟩
 have HB2 := Lib.hid (HB1.out.trans (hB.mono HB1.out.size))
 clear hB
 go_wp2_with fail
 refine (HSH.out _ HB2.out).mono ?_
 rintro e w3 ⟨rfl, hB⟩
 have HB3 := Lib.hid (HB2.out.trans (hB.mono HB2.out.size))
 clear hB
 go_wp2
 go_ret
 exact ⟨rfl, HB3.out⟩
theorem alts_3 (pa : Option Addr) (na ca : Nat) (pb : Option Addr) (nb cb : Nat) (s : List UInt8) (i : Nat) (w : World) (h0 : (∀ W, Below w.heap.size w W → Calls Tryz.prog 9 #[.slice pa na ca, .string ⟨s.toArray⟩] W fun e w' => e = .returned (.bool true) ∧ Below W.heap.size W w')) (h1 : (∀ W, Below w.heap.size w W → Calls Tryz.prog 9 #[.slice pb nb cb, .string ⟨s.toArray⟩] W fun e w' => e = .returned (.bool true) ∧ Below W.heap.size W w')) (h2 : (∀ W, Below w.heap.size w W → Calls Tryz.prog 30 #[.slice pa na ca] W fun e w' => e = .returned (.bool false) ∧ Below W.heap.size W w')) (hsh : (∀ W, Below w.heap.size w W → Calls Tryz.prog 10 #[] W fun e w' => e = .returned (.bool true) ∧ Below W.heap.size W w')) :
  Calls Tryz.prog 8 #[.slice pa na ca, .slice pb nb cb, .string ⟨s.toArray⟩, .int .u8 (i : Int)] w fun e w' => e = .returned (.bool true) ∧ Below w.heap.size w w' := by
 have HB0 := Lib.hid (Below.refl w.heap.size w)
 have H0 := Lib.hid h0
 have H1 := Lib.hid h1
 have H2 := Lib.hid h2
 have HSH := Lib.hid hsh
 clear hsh h0 h1 h2
 go_enter Tryz.func8, Tryz.ntmps8
 go_wp2_with fail
 refine (H0.out _ HB0.out).mono ?_
 rintro e w1 ⟨rfl, hB⟩
 have HB1 := Lib.hid (HB0.out.trans (hB.mono HB0.out.size))
 clear hB
 go_wp2_with fail
 refine (H1.out _ HB1.out).mono ?_
 rintro e w2 ⟨rfl, hB⟩
 have HB2 := Lib.hid (HB1.out.trans (hB.mono HB1.out.size))
 clear hB
 go_wp2_with fail
 refine (H2.out _ HB2.out).mono ?_
 rintro e w3 ⟨rfl, hB⟩
 have HB3 := Lib.hid (HB2.out.trans (hB.mono HB2.out.size))
 clear hB
 go_wp2_with fail
 refine (HSH.out _ HB3.out).mono ?_
 rintro e w4 ⟨rfl, hB⟩
 have HB4 := Lib.hid (HB3.out.trans (hB.mono HB3.out.size))
 clear hB
 go_wp2
 go_ret
 exact ⟨rfl, HB4.out⟩
theorem alts_4 (pa : Option Addr) (na ca : Nat) (pb : Option Addr) (nb cb : Nat) (s : List UInt8) (i : Nat) (w : World) (h0 : (∀ W, Below w.heap.size w W → Calls Tryz.prog 9 #[.slice pa na ca, .string ⟨s.toArray⟩] W fun e w' => e = .returned (.bool true) ∧ Below W.heap.size W w')) (h1 : (∀ W, Below w.heap.size w W → Calls Tryz.prog 9 #[.slice pb nb cb, .string ⟨s.toArray⟩] W fun e w' => e = .returned (.bool true) ∧ Below W.heap.size W w')) (h2 : (∀ W, Below w.heap.size w W → Calls Tryz.prog 30 #[.slice pa na ca] W fun e w' => e = .returned (.bool true) ∧ Below W.heap.size W w')) (h3 : (∀ W, Below w.heap.size w W → Calls Tryz.prog 30 #[.slice pb nb cb] W fun e w' => e = .returned (.bool false) ∧ Below W.heap.size W w')) (hsh : (∀ W, Below w.heap.size w W → Calls Tryz.prog 10 #[] W fun e w' => e = .returned (.bool true) ∧ Below W.heap.size W w')) :
  Calls Tryz.prog 8 #[.slice pa na ca, .slice pb nb cb, .string ⟨s.toArray⟩, .int .u8 (i : Int)] w fun e w' => e = .returned (.bool true) ∧ Below w.heap.size w w' := by
 have HB0 := Lib.hid (Below.refl w.heap.size w)
 have H0 := Lib.hid h0
 have H1 := Lib.hid h1
 have H2 := Lib.hid h2
 have H3 := Lib.hid h3
 have HSH := Lib.hid hsh
 clear hsh h0 h1 h2 h3
 go_enter Tryz.func8, Tryz.ntmps8
 go_wp2_with fail
 refine (H0.out _ HB0.out).mono ?_
 rintro e w1 ⟨rfl, hB⟩
 have HB1 := Lib.hid (HB0.out.trans (hB.mono HB0.out.size))
 clear hB
 go_wp2_with fail
 refine (H1.out _ HB1.out).mono ?_
 rintro e w2 ⟨rfl, hB⟩
 have HB2 := Lib.hid (HB1.out.trans (hB.mono HB1.out.size))
 clear hB
 go_wp2_with fail
 refine (H2.out _ HB2.out).mono ?_
 rintro e w3 ⟨rfl, hB⟩
 have HB3 := Lib.hid (HB2.out.trans (hB.mono HB2.out.size))
 clear hB
 go_wp2_with fail
 refine (H3.out _ HB3.out).mono ?_
 rintro e w4 ⟨rfl, hB⟩
 have HB4 := Lib.hid (HB3.out.trans (hB.mono HB3.out.size))
 clear hB
 go_wp2_with fail
 refine (HSH.out _ HB4.out).mono ?_
 rintro e w5 ⟨rfl, hB⟩
 have HB5 := Lib.hid (HB4.out.trans (hB.mono HB4.out.size))
 clear hB
 go_wp2
 go_ret
 exact ⟨rfl, HB5.out⟩
theorem alts_5 (pa : Option Addr) (na ca : Nat) (pb : Option Addr) (nb cb : Nat) (s : List UInt8) (i : Nat) (w : World) (ga gb : Nat) (hg : 0 < ga + gb) (hg1 : ga ≤ 1000) (hg2 : gb ≤ 1000) (h0 : (∀ W, Below w.heap.size w W → Calls Tryz.prog 9 #[.slice pa na ca, .string ⟨s.toArray⟩] W fun e w' => e = .returned (.bool true) ∧ Below W.heap.size W w')) (h1 : (∀ W, Below w.heap.size w W → Calls Tryz.prog 9 #[.slice pb nb cb, .string ⟨s.toArray⟩] W fun e w' => e = .returned (.bool true) ∧ Below W.heap.size W w')) (h2 : (∀ W, Below w.heap.size w W → Calls Tryz.prog 30 #[.slice pa na ca] W fun e w' => e = .returned (.bool true) ∧ Below W.heap.size W w')) (h3 : (∀ W, Below w.heap.size w W → Calls Tryz.prog 30 #[.slice pb nb cb] W fun e w' => e = .returned (.bool true) ∧ Below W.heap.size W w')) (h4 : (∀ W, Below w.heap.size w W → Calls Tryz.prog 27 #[.slice pa na ca] W fun e w' => e = .returned (.int .i64 (ga : Int)) ∧ Below W.heap.size W w')) (h5 : (∀ W, Below w.heap.size w W → Calls Tryz.prog 27 #[.slice pb nb cb] W fun e w' => e = .returned (.int .i64 (gb : Int)) ∧ Below W.heap.size W w')) (hsh : (∀ W, Below w.heap.size w W → Calls Tryz.prog 10 #[] W fun e w' => e = .returned (.bool true) ∧ Below W.heap.size W w')) :
  Calls Tryz.prog 8 #[.slice pa na ca, .slice pb nb cb, .string ⟨s.toArray⟩, .int .u8 (i : Int)] w fun e w' => e = .returned (.bool true) ∧ Below w.heap.size w w' := by
 have HB0 := Lib.hid (Below.refl w.heap.size w)
 have H0 := Lib.hid h0
 have H1 := Lib.hid h1
 have H2 := Lib.hid h2
 have H3 := Lib.hid h3
 have H4 := Lib.hid h4
 have H5 := Lib.hid h5
 have HSH := Lib.hid hsh
 have f1 : (0 : Int) < (ga : Int) + (gb : Int) := by omega
 clear hsh h0 h1 h2 h3 h4 h5
 go_enter Tryz.func8, Tryz.ntmps8
 go_wp2_with fail
 refine (H0.out _ HB0.out).mono ?_
 rintro e w1 ⟨rfl, hB⟩
 have HB1 := Lib.hid (HB0.out.trans (hB.mono HB0.out.size))
 clear hB
 go_wp2_with fail
 refine (H1.out _ HB1.out).mono ?_
 rintro e w2 ⟨rfl, hB⟩
 have HB2 := Lib.hid (HB1.out.trans (hB.mono HB1.out.size))
 clear hB
 go_wp2_with fail
 refine (H2.out _ HB2.out).mono ?_
 rintro e w3 ⟨rfl, hB⟩
 have HB3 := Lib.hid (HB2.out.trans (hB.mono HB2.out.size))
 clear hB
 go_wp2_with fail
 refine (H3.out _ HB3.out).mono ?_
 rintro e w4 ⟨rfl, hB⟩
 have HB4 := Lib.hid (HB3.out.trans (hB.mono HB3.out.size))
 clear hB
 go_wp2_with fail
 refine (H4.out _ HB4.out).mono ?_
 rintro e w5 ⟨rfl, hB⟩
 have HB5 := Lib.hid (HB4.out.trans (hB.mono HB4.out.size))
 clear hB
 go_wp2_with fail
 refine (H5.out _ HB5.out).mono ?_
 rintro e w6 ⟨rfl, hB⟩
 have HB6 := Lib.hid (HB5.out.trans (hB.mono HB5.out.size))
 clear hB
 go_wp2_with fail
 refine (HSH.out _ HB6.out).mono ?_
 rintro e w7 ⟨rfl, hB⟩
 have HB7 := Lib.hid (HB6.out.trans (hB.mono HB6.out.size))
 clear hB
 go_wp2
 go_ret
 exact ⟨rfl, HB7.out⟩
theorem alts_6 (pa : Option Addr) (na ca : Nat) (pb : Option Addr) (nb cb : Nat) (s : List UInt8) (i : Nat) (w : World) (ga gb : Nat) (hg : ga = 0) (hg1 : gb = 0) (hl : 20 < na + nb) (hl1 : na ≤ 1000) (hl2 : nb ≤ 1000) (h0 : (∀ W, Below w.heap.size w W → Calls Tryz.prog 9 #[.slice pa na ca, .string ⟨s.toArray⟩] W fun e w' => e = .returned (.bool true) ∧ Below W.heap.size W w')) (h1 : (∀ W, Below w.heap.size w W → Calls Tryz.prog 9 #[.slice pb nb cb, .string ⟨s.toArray⟩] W fun e w' => e = .returned (.bool true) ∧ Below W.heap.size W w')) (h2 : (∀ W, Below w.heap.size w W → Calls Tryz.prog 30 #[.slice pa na ca] W fun e w' => e = .returned (.bool true) ∧ Below W.heap.size W w')) (h3 : (∀ W, Below w.heap.size w W → Calls Tryz.prog 30 #[.slice pb nb cb] W fun e w' => e = .returned (.bool true) ∧ Below W.heap.size W w')) (h4 : (∀ W, Below w.heap.size w W → Calls Tryz.prog 27 #[.slice pa na ca] W fun e w' => e = .returned (.int .i64 (ga : Int)) ∧ Below W.heap.size W w')) (h5 : (∀ W, Below w.heap.size w W → Calls Tryz.prog 27 #[.slice pb nb cb] W fun e w' => e = .returned (.int .i64 (gb : Int)) ∧ Below W.heap.size W w')) (hsh : (∀ W, Below w.heap.size w W → Calls Tryz.prog 10 #[] W fun e w' => e = .returned (.bool true) ∧ Below W.heap.size W w')) :
  Calls Tryz.prog 8 #[.slice pa na ca, .slice pb nb cb, .string ⟨s.toArray⟩, .int .u8 (i : Int)] w fun e w' => e = .returned (.bool true) ∧ Below w.heap.size w w' := by
 have HB0 := Lib.hid (Below.refl w.heap.size w)
 have H0 := Lib.hid h0
 have H1 := Lib.hid h1
 have H2 := Lib.hid h2
 have H3 := Lib.hid h3
 have H4 := Lib.hid h4
 have H5 := Lib.hid h5
 have HSH := Lib.hid hsh
 subst hg hg1
 have f2 : (20 : Int) < (na : Int) + (nb : Int) := by omega
 clear hsh h0 h1 h2 h3 h4 h5
 go_enter Tryz.func8, Tryz.ntmps8
 go_wp2_with fail
 refine (H0.out _ HB0.out).mono ?_
 rintro e w1 ⟨rfl, hB⟩
 have HB1 := Lib.hid (HB0.out.trans (hB.mono HB0.out.size))
 clear hB
 go_wp2_with fail
 refine (H1.out _ HB1.out).mono ?_
 rintro e w2 ⟨rfl, hB⟩
 have HB2 := Lib.hid (HB1.out.trans (hB.mono HB1.out.size))
 clear hB
 go_wp2_with fail
 refine (H2.out _ HB2.out).mono ?_
 rintro e w3 ⟨rfl, hB⟩
 have HB3 := Lib.hid (HB2.out.trans (hB.mono HB2.out.size))
 clear hB
 go_wp2_with fail
 refine (H3.out _ HB3.out).mono ?_
 rintro e w4 ⟨rfl, hB⟩
 have HB4 := Lib.hid (HB3.out.trans (hB.mono HB3.out.size))
 clear hB
 go_wp2_with fail
 refine (H4.out _ HB4.out).mono ?_
 rintro e w5 ⟨rfl, hB⟩
 have HB5 := Lib.hid (HB4.out.trans (hB.mono HB4.out.size))
 clear hB
 go_wp2_with fail
 refine (H5.out _ HB5.out).mono ?_
 rintro e w6 ⟨rfl, hB⟩
 have HB6 := Lib.hid (HB5.out.trans (hB.mono HB5.out.size))
 clear hB
 go_wp2_with fail
 refine (HSH.out _ HB6.out).mono ?_
 rintro e w7 ⟨rfl, hB⟩
 have HB7 := Lib.hid (HB6.out.trans (hB.mono HB6.out.size))
 clear hB
 go_wp2
 go_ret
 exact ⟨rfl, HB7.out⟩
def WholeP (s : List UInt8) (w : World) (at' : Nat) : Prop := ∀ (W : World) (b o cap : Nat) (zs : List Nd) (t : T), Below w.heap.size w W → NodesAt W b o zs → IsPat zs t → t.refs = 0 → (∀ (i : Nat) (x : Nd), zs[i]? = some x → x.Fits) → ∀ j : Nat, j ≤ s.length →
  Calls Tryz.prog 11 #[.slice (some ⟨b, o, none⟩) zs.length cap, .string ⟨s.toArray⟩, .int .i64 at', .int .i64 j] W fun e w' => (∃ c : Cp, e = .returned (.tuple #[capV c, .bool (whR s t at' j)])) ∧ Below W.heap.size W w'
theorem alts_go (b1 o1 q ca : Nat) (xs : List Nd) (b2 o2 r cb : Nat) (ys : List Nd) (s : List UInt8) (i k : Nat) (w : World) (ta tb : T) (hlx : xs.length = q + 1) (hly : ys.length = r + 1) (hq : q + r ≤ 18) (hl : s.length ≤ 9) (hi8 : i < 256) (hk : i % (s.length + 1) = k)
  (hX : NodesAt w b1 o1 xs) (hY : NodesAt w b2 o2 ys) (fX : ∀ (i : Nat) (x : Nd), xs[i]? = some x → x.Fits) (fY : ∀ (i : Nat) (x : Nd), ys[i]? = some x → x.Fits) (hpa : IsPat xs ta) (hpb : IsPat ys tb) (ga : ta.groups = 0) (gb : tb.groups = 0)
  (h0 : (∀ W, Below w.heap.size w W → Calls Tryz.prog 9 #[.slice (some ⟨b1, o1, none⟩) (q + 1) ca, .string ⟨s.toArray⟩] W fun e w' => e = .returned (.bool true) ∧ Below W.heap.size W w')) (h1 : (∀ W, Below w.heap.size w W → Calls Tryz.prog 9 #[.slice (some ⟨b2, o2, none⟩) (r + 1) cb, .string ⟨s.toArray⟩] W fun e w' => e = .returned (.bool true) ∧ Below W.heap.size W w')) (h2 : (∀ W, Below w.heap.size w W → Calls Tryz.prog 30 #[.slice (some ⟨b1, o1, none⟩) (q + 1) ca] W fun e w' => e = .returned (.bool true) ∧ Below W.heap.size W w')) (h3 : (∀ W, Below w.heap.size w W → Calls Tryz.prog 30 #[.slice (some ⟨b2, o2, none⟩) (r + 1) cb] W fun e w' => e = .returned (.bool true) ∧ Below W.heap.size W w')) (h4 : (∀ W, Below w.heap.size w W → Calls Tryz.prog 27 #[.slice (some ⟨b1, o1, none⟩) (q + 1) ca] W fun e w' => e = .returned (.int .i64 (0 : Int)) ∧ Below W.heap.size W w')) (h5 : (∀ W, Below w.heap.size w W → Calls Tryz.prog 27 #[.slice (some ⟨b2, o2, none⟩) (r + 1) cb] W fun e w' => e = .returned (.int .i64 (0 : Int)) ∧ Below W.heap.size W w')) (hsh : (∀ W, Below w.heap.size w W → Calls Tryz.prog 10 #[] W fun e w' => e = .returned (.bool true) ∧ Below W.heap.size W w'))
  (hMay : ∀ (W : World) (g cap : Nat), NodesAt W g 0 (joint xs ys) → IsPat (joint xs ys) (.two 5 ta tb) → Calls Tryz.prog 30 #[.slice (some ⟨g, 0, none⟩) (q + 1 + (r + 1) + 1) cap] W fun e w' => e = .returned (.bool true) ∧ Below W.heap.size W w')
  (hWh : WholeP s w k) :
  Calls Tryz.prog 8 #[.slice (some ⟨b1, o1, none⟩) (q + 1) ca, .slice (some ⟨b2, o2, none⟩) (r + 1) cb, .string ⟨s.toArray⟩, .int .u8 (i : Int)] w fun e w' => e = .returned (.bool true) ∧ Below w.heap.size w w' := by
 obtain ⟨i0, hi, hz0, hz1, hz2⟩ := info_parts infoNd
 obtain ⟨x1, hx1⟩ : ∃ x, xs[q]? = some x := ⟨xs[q]'(by omega), List.getElem?_eq_getElem (by omega)⟩
 obtain ⟨x0, hx0⟩ : ∃ x, xs[0]? = some x := ⟨xs[0]'(by omega), List.getElem?_eq_getElem (by omega)⟩
 obtain ⟨y0, hy0⟩ : ∃ x, ys[0]? = some x := ⟨ys[0]'(by omega), List.getElem?_eq_getElem (by omega)⟩
 have hjoin : x1.kind ≠ 5 → x0.kind ≠ 0 → y0.kind ≠ 0 → IsPat (joint xs ys) (.two 5 ta tb) := fun e1 e2 e3 => joint_pat hpa hpb ga gb (by omega)
  (by unfold kindAt; rw [show ((xs.length : Int) - 1).toNat = q by omega, hx1]; exact e1) (by unfold kindAt; rw [show (0 : Int).toNat = 0 from rfl, hx0]; exact e2) (by unfold kindAt; rw [show (0 : Int).toNat = 0 from rfl, hy0]; exact e3)
 have hkk : (i : Int) % ((s.length : Int) + 1) = (k : Int) := by rw [← hk]; simp
 have hks : k ≤ s.length := by rw [← hk]; have := Nat.mod_lt i (show 0 < s.length + 1 by omega); omega
 have HJ := Lib.hid hjoin
 have HX := Lib.hid (And.intro hX (And.intro hx1 hx0))
 have HY := Lib.hid (And.intro hY hy0)
 have HLX := Lib.hid (And.intro hlx hly)
 have HF := Lib.hid (And.intro fX fY)
 have HPA := Lib.hid (And.intro hpa (And.intro hpb (And.intro ga gb)))
 have HK := Lib.hid hkk
 have HM := Lib.hid hMay
 have HW := Lib.hid hWh
 have lb1 := hX.lt
 have lb2 := hY.lt
 have f2 : ¬ (20 : Int) < (q : Int) + 1 + ((r : Int) + 1) := by omega
 have H0 := Lib.hid h0
 have H1 := Lib.hid h1
 have H2 := Lib.hid h2
 have H3 := Lib.hid h3
 have H4 := Lib.hid h4
 have H5 := Lib.hid h5
 have HSH := Lib.hid hsh
 have HB0 := Lib.hid (Below.refl w.heap.size w)
 clear hsh h0 h1 h2 h3 h4 h5 hjoin hX hY hx1 hx0 hy0 hlx hly fX fY hpa hpb ga gb hkk hk hMay hWh
 go_enter Tryz.func8, Tryz.ntmps8
 go_wp2_with fail
 refine (H0.out _ HB0.out).mono ?_
 rintro e w1 ⟨rfl, hB⟩
 have HB1 := Lib.hid (HB0.out.trans (hB.mono HB0.out.size))
 clear hB
 go_wp2_with fail
 refine (H1.out _ HB1.out).mono ?_
 rintro e w2 ⟨rfl, hB⟩
 have HB2 := Lib.hid (HB1.out.trans (hB.mono HB1.out.size))
 clear hB
 go_wp2_with fail
 refine (H2.out _ HB2.out).mono ?_
 rintro e w3 ⟨rfl, hB⟩
 have HB3 := Lib.hid (HB2.out.trans (hB.mono HB2.out.size))
 clear hB
 go_wp2_with fail
 refine (H3.out _ HB3.out).mono ?_
 rintro e w4 ⟨rfl, hB⟩
 have HB4 := Lib.hid (HB3.out.trans (hB.mono HB3.out.size))
 clear hB
 go_wp2_with fail
 refine (H4.out _ HB4.out).mono ?_
 rintro e w5 ⟨rfl, hB⟩
 have HB5 := Lib.hid (HB4.out.trans (hB.mono HB4.out.size))
 clear hB
 go_wp2_with fail
 refine (H5.out _ HB5.out).mono ?_
 rintro e w6 ⟨rfl, hB⟩
 have HB6 := Lib.hid (HB5.out.trans (hB.mono HB5.out.size))
 clear hB
 go_wp2_with fail
 refine (HSH.out _ HB6.out).mono ?_
 rintro e w7 ⟨rfl, hB⟩
 have HB7 := Lib.hid (HB6.out.trans (hB.mono HB6.out.size))
 clear hB
 have hX7 := HX.out.1.below HB7.out lb1
 have hY7 := HY.out.1.below HB7.out lb2
 have c1 : w7.cell? ⟨b1, o1 + q * 10, none⟩ = some (.int .i64 x1.kind) := hX7.cell q x1 HX.out.2.1 0 _ rfl
 have c0 : w7.cell? ⟨b1, o1, none⟩ = some (.int .i64 x0.kind) := by have := hX7.cell 0 x0 HX.out.2.2 0 _ rfl; rwa [show o1 + 0 * 10 + 0 = o1 by omega] at this
 have cy : w7.cell? ⟨b2, o2, none⟩ = some (.int .i64 y0.kind) := by have := hY7.cell 0 y0 HY.out.2 0 _ rfl; rwa [show o2 + 0 * 10 + 0 = o2 by omega] at this
 clear hX7 hY7
 by_cases e1 : x1.kind = 5
 ·have e1' : (x1.kind == 5) = true := by simpa using e1
  go_wp2
  go_ret
  exact ⟨rfl, HB7.out⟩
 have e1' : (x1.kind == 5) = false := by rw [beq_eq_false_iff_ne]; exact e1
 by_cases e2 : x0.kind = 0
 ·have e2' : (x0.kind == 0) = true := by simpa using e2
  go_wp2
  go_ret
  exact ⟨rfl, HB7.out⟩
 have e2' : (x0.kind == 0) = false := by rw [beq_eq_false_iff_ne]; exact e2
 by_cases e3 : y0.kind = 0
 ·have e3' : (y0.kind == 0) = true := by simpa using e3
  go_wp2
  go_ret
  exact ⟨rfl, HB7.out⟩
 have e3' : (y0.kind == 0) = false := by rw [beq_eq_false_iff_ne]; exact e3
 have HJP := Lib.hid (HJ.out e1 e2 e3)
 clear HJ
 have hfl := flat_len xs
 rw [HLX.out.1] at hfl
 have HFL := Lib.hid hfl
 have hcell : ∀ j u, (flat xs)[j]? = some u → (w7.alloc (.cells #[] 57)).cell? ((⟨b1, o1, none⟩ : Addr).add j) = some u := fun j u hj => by
  obtain ⟨i, r, x, e1, e2, e3, e4⟩ := flat_at xs j (by have := (List.getElem?_eq_some_iff.1 hj).1; have := flat_len xs; omega)
  rw [e4] at hj
  rw [Addr.add_lit]
  refine cell_alloc1 _ ?_
  have := (HX.out.1.below HB7.out lb1).cell i x e1 r u hj
  rw [e3, ← Nat.add_assoc]; exact this
 have HCE := Lib.hid hcell
 have l7 := HB7.out.size
 clear hcell hfl
 go_wp2_with (at_builtin; refine wpList_append_own _ rfl _ _ 22 rfl w.heap.size 57 i0 (.agg #[.int .i64 0, .int .u64 0, .int .u64 0, .int .u64 0, .int .u64 0, .int .i64 0, .int .i64 0, .int .i64 0, .int .i64 0, .int .i64 0]) 10 80 Tryz.underlying22 hi hz0 hz1 hz2 rfl (by decide) _ _ _ rfl (World.ownsRow_made w7 #[] 0 l7 (Nat.zero_le _) (by simp)) ⟨b1, o1, none⟩ (q + 1) ca (flat xs) rfl ?qc1 ?qc2 ?qc3 ?qc4 ?qc5 ?qc6 ?_)
 case qc1 => rw [HFL.out]
 case qc2 => exact HCE.out
 case qc3 => exact flat_ones xs
 case qc4 => unfold maxLen; omega
 case qc5 => omega
 case qc6 => simp; omega
 intro v8 w8 hown hgrow hnil
 have hB8 : Below w.heap.size w w8 := (HB7.out.alloc l7 _).grown hgrow (by simp; omega) (by intro k hk; simp [Value.ownBlock] at hk; omega)
 try simp only [Nat.zero_add, List.nil_append] at hown
 have HO := Lib.hid hown
 have HB8 := Lib.hid hB8
 clear hgrow hnil hown hB8 HCE HFL c1 c0 cy
 go_wp2
 go_loopw [9, 10] (fun cv iv wr => ∃ (j : Nat) (v' : Value), v' = cv ∧ j ≤ r + 1 ∧ iv = .int .i64 (j : Int) ∧ wr.ownsRow w.heap.size 57 10 v' (q + 1 + j) (flat (xs ++ (ys.map (shN (q + 1))).take j)) ∧ Below w.heap.size w wr) (fun _ iv _ => r + 1 - (RowKit.intOf iv).toNat)
 case atStart => exact ⟨0, _, rfl, by omega, rfl, by simpa using HO.out, HB8.out⟩
 case round =>
  obtain ⟨j, v', rfl, hj, rfl, hown, hB⟩ := hrel
  by_cases hlt : j < r + 1
  ·obtain ⟨y, hy⟩ : ∃ y, ys[j]? = some y := ⟨ys[j]'(by have := HLX.out.2; omega), List.getElem?_eq_getElem (by have := HLX.out.2; omega)⟩
   have hw := HY.out.1.below hB lb2
   have d := hw.cell j y hy
   have lB := hB.size
   have hin := part_in tb 0 HPA.out.2.1.1 HPA.out.2.1.2.1 j y (Nat.zero_le _) (by have := HPA.out.2.1.2.2.1; have := HLX.out.2; omega) hy
   have hsz : tb.size = r + 1 := by have := HPA.out.2.1.2.2.1; have := HLX.out.2; omega
   have hsn : flat (xs ++ (ys.map (shN (q + 1))).take (j + 1)) = flat (xs ++ (ys.map (shN (q + 1))).take j) ++ (shN (q + 1) y).cells.toList := by
    have hm : (ys.map (shN (q + 1)))[j]? = some (shN (q + 1) y) := by rw [List.getElem?_map, hy]; rfl
    have ht : (ys.map (shN (q + 1))).take (j + 1) = (ys.map (shN (q + 1))).take j ++ [shN (q + 1) y] := by
     obtain ⟨h1, h2⟩ := List.getElem?_eq_some_iff.1 hm
     rw [List.take_succ_eq_append_getElem h1, h2]
    rw [ht, ← List.append_assoc, flat_app, flat_one]
   have HS := Lib.hid hsn
   have HON := Lib.hid (And.intro hown hB)
   have hji : (j : Int) < (r : Int) + 1 := by omega
   rw [hsz] at hin
   clear hy hw hsn hown hB hsz
   obtain ⟨kd, w0, w1, w2, w3, xa, xb, m, M, xn⟩ := y
   have d0 : wr.cell? ⟨b2, o2 + j * 10, none⟩ = some (.int .i64 kd) := d 0 _ rfl
   have d1 : wr.cell? ⟨b2, o2 + j * 10 + 1, none⟩ = some (.int .u64 w0) := d 1 _ rfl
   have d2 : wr.cell? ⟨b2, o2 + j * 10 + 2, none⟩ = some (.int .u64 w1) := d 2 _ rfl
   have d3 : wr.cell? ⟨b2, o2 + j * 10 + 3, none⟩ = some (.int .u64 w2) := d 3 _ rfl
   have d4 : wr.cell? ⟨b2, o2 + j * 10 + 4, none⟩ = some (.int .u64 w3) := d 4 _ rfl
   have d5 : wr.cell? ⟨b2, o2 + j * 10 + 5, none⟩ = some (.int .i64 xa) := d 5 _ rfl
   have d6 : wr.cell? ⟨b2, o2 + j * 10 + 6, none⟩ = some (.int .i64 xb) := d 6 _ rfl
   have d7 : wr.cell? ⟨b2, o2 + j * 10 + 7, none⟩ = some (.int .i64 m) := d 7 _ rfl
   have d8 : wr.cell? ⟨b2, o2 + j * 10 + 8, none⟩ = some (.int .i64 M) := d 8 _ rfl
   have d9 : wr.cell? ⟨b2, o2 + j * 10 + 9, none⟩ = some (.int .i64 xn) := d 9 _ rfl
   clear d
   simp only at hin
   by_cases k4 : kd = 4
   ·subst k4
    obtain ⟨a1, a2, a3, a4⟩ := hin.1 (by omega)
    have a2 : xa ≤ 100 := by omega
    have a4 : xb ≤ 100 := by omega
    have HSH2 : Hid (shN (q + 1) ⟨4, w0, w1, w2, w3, xa, xb, m, M, xn⟩ = ⟨4, w0, w1, w2, w3, xa + ((q : Int) + 1), xb + ((q : Int) + 1), m, M, xn⟩) := Lib.hid (by simp [shN])
    clear hin
    go_wp2_with (at_builtin; refine wpList_append_own _ rfl _ _ 22 rfl w.heap.size 57 i0 (.agg #[.int .i64 0, .int .u64 0, .int .u64 0, .int .u64 0, .int .u64 0, .int .i64 0, .int .i64 0, .int .i64 0, .int .i64 0, .int .i64 0]) 10 80 Tryz.underlying22 hi hz0 hz1 hz2 rfl (by decide) _ _ _ rfl ((HON.out.1.alloc _).alloc _) ⟨wr.heap.size + 1, 0, none⟩ 1 1 (Nd.cells ⟨4, w0, w1, w2, w3, xa + ((q : Int) + 1), xb + ((q : Int) + 1), m, M, xn⟩).toList rfl rfl ?qc2 ?qc3 ?qc4 ?qc5 ?qc6 ?_)
    case qc2 => (intro j u hj; rw [Addr.add_lit, Nat.zero_add]; refine (two_new wr ⟨4, w0, w1, w2, w3, xa + ((q : Int) + 1), xb + ((q : Int) + 1), m, M, xn⟩ j).trans ?_; simpa using hj)
    case qc3 => exact cells_one _
    case qc4 => (unfold maxLen; omega)
    case qc5 => omega
    case qc6 => (simp; omega)
    intro v1 w4 hown1 hgrow hnil
    have hB1 : Below w.heap.size w w4 := ((HON.out.2.alloc lB _).alloc (by simp; omega) _).grown hgrow (by simp; omega) (fun k hk => (HON.out.1.lt k hk).1)
    have HO1 := Lib.hid (And.intro hown1 hB1)
    clear hown1 hB1 hgrow hnil
    go_wp2
    go_roundw
    case rel => exact ⟨j + 1, v1, rfl, by omega, by go_num, by rw [HS.out, HSH2.out]; exact HO1.out.1, HO1.out.2⟩
    case measure => (simp [RowKit.intOf]) <;> omega
   by_cases k5 : kd = 5
   ·subst k5
    obtain ⟨a1, a2, a3, a4⟩ := hin.1 (by omega)
    have a2 : xa ≤ 100 := by omega
    have a4 : xb ≤ 100 := by omega
    have HSH2 : Hid (shN (q + 1) ⟨5, w0, w1, w2, w3, xa, xb, m, M, xn⟩ = ⟨5, w0, w1, w2, w3, xa + ((q : Int) + 1), xb + ((q : Int) + 1), m, M, xn⟩) := Lib.hid (by simp [shN])
    clear hin
    go_wp2_with (at_builtin; refine wpList_append_own _ rfl _ _ 22 rfl w.heap.size 57 i0 (.agg #[.int .i64 0, .int .u64 0, .int .u64 0, .int .u64 0, .int .u64 0, .int .i64 0, .int .i64 0, .int .i64 0, .int .i64 0, .int .i64 0]) 10 80 Tryz.underlying22 hi hz0 hz1 hz2 rfl (by decide) _ _ _ rfl ((HON.out.1.alloc _).alloc _) ⟨wr.heap.size + 1, 0, none⟩ 1 1 (Nd.cells ⟨5, w0, w1, w2, w3, xa + ((q : Int) + 1), xb + ((q : Int) + 1), m, M, xn⟩).toList rfl rfl ?qc2 ?qc3 ?qc4 ?qc5 ?qc6 ?_)
    case qc2 => (intro j u hj; rw [Addr.add_lit, Nat.zero_add]; refine (two_new wr ⟨5, w0, w1, w2, w3, xa + ((q : Int) + 1), xb + ((q : Int) + 1), m, M, xn⟩ j).trans ?_; simpa using hj)
    case qc3 => exact cells_one _
    case qc4 => (unfold maxLen; omega)
    case qc5 => omega
    case qc6 => (simp; omega)
    intro v1 w4 hown1 hgrow hnil
    have hB1 : Below w.heap.size w w4 := ((HON.out.2.alloc lB _).alloc (by simp; omega) _).grown hgrow (by simp; omega) (fun k hk => (HON.out.1.lt k hk).1)
    have HO1 := Lib.hid (And.intro hown1 hB1)
    clear hown1 hB1 hgrow hnil
    go_wp2
    go_roundw
    case rel => exact ⟨j + 1, v1, rfl, by omega, by go_num, by rw [HS.out, HSH2.out]; exact HO1.out.1, HO1.out.2⟩
    case measure => (simp [RowKit.intOf]) <;> omega
   by_cases k6 : kd = 6
   ·subst k6
    obtain ⟨a1, a2⟩ := hin.2 rfl
    have a2 : xa ≤ 100 := by omega
    have HSH2 : Hid (shN (q + 1) ⟨6, w0, w1, w2, w3, xa, xb, m, M, xn⟩ = ⟨6, w0, w1, w2, w3, xa + ((q : Int) + 1), xb, m, M, xn⟩) := Lib.hid (by simp [shN])
    clear hin
    go_wp2_with (at_builtin; refine wpList_append_own _ rfl _ _ 22 rfl w.heap.size 57 i0 (.agg #[.int .i64 0, .int .u64 0, .int .u64 0, .int .u64 0, .int .u64 0, .int .i64 0, .int .i64 0, .int .i64 0, .int .i64 0, .int .i64 0]) 10 80 Tryz.underlying22 hi hz0 hz1 hz2 rfl (by decide) _ _ _ rfl ((HON.out.1.alloc _).alloc _) ⟨wr.heap.size + 1, 0, none⟩ 1 1 (Nd.cells ⟨6, w0, w1, w2, w3, xa + ((q : Int) + 1), xb, m, M, xn⟩).toList rfl rfl ?qc2 ?qc3 ?qc4 ?qc5 ?qc6 ?_)
    case qc2 => (intro j u hj; rw [Addr.add_lit, Nat.zero_add]; refine (two_new wr ⟨6, w0, w1, w2, w3, xa + ((q : Int) + 1), xb, m, M, xn⟩ j).trans ?_; simpa using hj)
    case qc3 => exact cells_one _
    case qc4 => (unfold maxLen; omega)
    case qc5 => omega
    case qc6 => (simp; omega)
    intro v1 w4 hown1 hgrow hnil
    have hB1 : Below w.heap.size w w4 := ((HON.out.2.alloc lB _).alloc (by simp; omega) _).grown hgrow (by simp; omega) (fun k hk => (HON.out.1.lt k hk).1)
    have HO1 := Lib.hid (And.intro hown1 hB1)
    clear hown1 hB1 hgrow hnil
    go_wp2
    go_roundw
    case rel => exact ⟨j + 1, v1, rfl, by omega, by go_num, by rw [HS.out, HSH2.out]; exact HO1.out.1, HO1.out.2⟩
    case measure => (simp [RowKit.intOf]) <;> omega
   have k4' : (kd == 4) = false := by rw [beq_eq_false_iff_ne]; exact k4
   have k5' : (kd == 5) = false := by rw [beq_eq_false_iff_ne]; exact k5
   have k6' : (kd == 6) = false := by rw [beq_eq_false_iff_ne]; exact k6
   have HSH2 : Hid (shN (q + 1) ⟨kd, w0, w1, w2, w3, xa, xb, m, M, xn⟩ = ⟨kd, w0, w1, w2, w3, xa, xb, m, M, xn⟩) := Lib.hid (shN_id ⟨k4, k5, k6⟩)
   clear hin
   go_wp2_with (at_builtin; refine wpList_append_own _ rfl _ _ 22 rfl w.heap.size 57 i0 (.agg #[.int .i64 0, .int .u64 0, .int .u64 0, .int .u64 0, .int .u64 0, .int .i64 0, .int .i64 0, .int .i64 0, .int .i64 0, .int .i64 0]) 10 80 Tryz.underlying22 hi hz0 hz1 hz2 rfl (by decide) _ _ _ rfl ((HON.out.1.alloc _).alloc _) ⟨wr.heap.size + 1, 0, none⟩ 1 1 (Nd.cells ⟨kd, w0, w1, w2, w3, xa, xb, m, M, xn⟩).toList rfl rfl ?qc2 ?qc3 ?qc4 ?qc5 ?qc6 ?_)
   case qc2 => (intro j u hj; rw [Addr.add_lit, Nat.zero_add]; refine (two_new wr ⟨kd, w0, w1, w2, w3, xa, xb, m, M, xn⟩ j).trans ?_; simpa using hj)
   case qc3 => exact cells_one _
   case qc4 => (unfold maxLen; omega)
   case qc5 => omega
   case qc6 => (simp; omega)
   intro v1 w4 hown1 hgrow hnil
   have hB1 : Below w.heap.size w w4 := ((HON.out.2.alloc lB _).alloc (by simp; omega) _).grown hgrow (by simp; omega) (fun k hk => (HON.out.1.lt k hk).1)
   have HO1 := Lib.hid (And.intro hown1 hB1)
   clear hown1 hB1 hgrow hnil
   go_wp2
   go_roundw
   case rel => exact ⟨j + 1, v1, rfl, by omega, by go_num, by rw [HS.out, HSH2.out]; exact HO1.out.1, HO1.out.2⟩
   case measure => (simp [RowKit.intOf]) <;> omega
  ·obtain rfl : j = r + 1 := by omega
   obtain ⟨g, cap0, hv⟩ : ∃ g cap0, v' = .slice (some ⟨g, 0, none⟩) (q + 1 + (r + 1)) cap0 := by
    rcases hown.2 with ⟨_, h0⟩ | ⟨g, cap0, cur, e, _⟩
    ·omega
    ·exact ⟨g, cap0, e⟩
   subst hv
   have lB := hB.size
   have htk : (ys.map (shN (q + 1))).take (r + 1) = ys.map (shN (q + 1)) := List.take_of_length_le (by rw [List.length_map]; have := HLX.out.2; omega)
   rw [htk] at hown
   have HON := Lib.hid (And.intro hown hB)
   clear hown hB htk
   have hn1 : ((q + 1 + (r + 1) : Nat) : Int) = (q : Int) + 1 + ((r : Int) + 1) := by omega
   have HN1 := Lib.hid hn1
   clear hn1
   go_wp2_with (at_builtin; refine wpList_append_own _ rfl _ _ 22 rfl w.heap.size 57 i0 (.agg #[.int .i64 0, .int .u64 0, .int .u64 0, .int .u64 0, .int .u64 0, .int .i64 0, .int .i64 0, .int .i64 0, .int .i64 0, .int .i64 0]) 10 80 Tryz.underlying22 hi hz0 hz1 hz2 rfl (by decide) _ _ _ rfl (HON.out.1.alloc _) ⟨wr.heap.size, 0, none⟩ 1 1 (Nd.cells ⟨5, 0, 0, 0, 0, (q : Int), (q : Int) + 1 + ((r : Int) + 1) - 1, 0, 0, 0⟩).toList rfl rfl ?qc2 ?qc3 ?qc4 ?qc5 ?qc6 ?_)
   case qc2 => (intro j u hj; rw [Addr.add_lit, Nat.zero_add]; refine (one_new wr ⟨5, 0, 0, 0, 0, (q : Int), (q : Int) + 1 + ((r : Int) + 1) - 1, 0, 0, 0⟩ j).trans ?_; simpa using hj)
   case qc3 => exact cells_one _
   case qc4 => (unfold maxLen; omega)
   case qc5 => omega
   case qc6 => (simp; omega)
   intro v1 w4 hown1 hgrow hnil
   have hB1 : Below w.heap.size w w4 := (HON.out.2.alloc lB _).grown hgrow (by simp; omega) (fun k hk => (HON.out.1.lt k hk).1)
   have hroot : (⟨5, 0, 0, 0, 0, (q : Int), (q : Int) + 1 + ((r : Int) + 1) - 1, 0, 0, 0⟩ : Nd) = rootO xs.length ys.length := by
    rw [HLX.out.1, HLX.out.2]
    simp only [rootO, Nd.mk.injEq, true_and, and_true]
    omega
   have hj2 : flat (xs ++ ys.map (shN (q + 1))) ++ (⟨5, 0, 0, 0, 0, (q : Int), (q : Int) + 1 + ((r : Int) + 1) - 1, 0, 0, 0⟩ : Nd).cells.toList = flat (joint xs ys) := by
    rw [hroot, ← flat_one, ← flat_app]
    unfold joint
    rw [HLX.out.1, List.append_assoc]
   have hlen : (joint xs ys).length = q + 1 + (r + 1) + 1 := by rw [joint_len, HLX.out.1, HLX.out.2]
   rw [hj2, ← hlen] at hown1
   obtain ⟨g2, cap2, rfl, hN2⟩ := own_nodes hown1 (by omega)
   rw [hlen]
   have hB1s := hB1.size
   have HB9 := Lib.hid hB1
   have HN2 := Lib.hid hN2
   have l2 := hN2.lt
   have HLEN := Lib.hid hlen
   have HW1 : Hid (∀ W, Below w.heap.size w W → ∀ j : Nat, j ≤ s.length → Calls Tryz.prog 11 #[.slice (some ⟨b1, o1, none⟩) (q + 1) ca, .string ⟨s.toArray⟩, .int .i64 k, .int .i64 j] W fun e w' => (∃ c : Cp, e = .returned (.tuple #[capV c, .bool (whR s ta k j)])) ∧ Below W.heap.size W w') := Lib.hid (fun W h j hj => by
    have := HW.out W b1 o1 ca xs ta h (HX.out.1.below h lb1) HPA.out.1 (joint_refs HPA.out.1 HPA.out.2.2.1) HF.out.1 j hj
    rw [HLX.out.1] at this; exact this)
   have HW2 : Hid (∀ W, Below w.heap.size w W → ∀ j : Nat, j ≤ s.length → Calls Tryz.prog 11 #[.slice (some ⟨b2, o2, none⟩) (r + 1) cb, .string ⟨s.toArray⟩, .int .i64 k, .int .i64 j] W fun e w' => (∃ c : Cp, e = .returned (.tuple #[capV c, .bool (whR s tb k j)])) ∧ Below W.heap.size W w') := Lib.hid (fun W h j hj => by
    have := HW.out W b2 o2 cb ys tb h (HY.out.1.below h lb2) HPA.out.2.1 (joint_refs HPA.out.2.1 HPA.out.2.2.2) HF.out.2 j hj
    rw [HLX.out.2] at this; exact this)
   have HW3 : Hid (∀ W, Below w.heap.size w W → NodesAt W g2 0 (joint xs ys) → ∀ j : Nat, j ≤ s.length → Calls Tryz.prog 11 #[.slice (some ⟨g2, 0, none⟩) (q + 1 + (r + 1) + 1) cap2, .string ⟨s.toArray⟩, .int .i64 k, .int .i64 j] W fun e w' => (∃ c : Cp, e = .returned (.tuple #[capV c, .bool (whR s ta k j || whR s tb k j)])) ∧ Below W.heap.size W w') := Lib.hid (fun W h hn j hj => by
    have hg : (T.two 5 ta tb).groups = 0 := by show ta.groups + tb.groups = 0; rw [HPA.out.2.2.1, HPA.out.2.2.2]
    have := HW.out W g2 0 cap2 (joint xs ys) (.two 5 ta tb) h hn HJP.out (joint_refs HJP.out hg) (fun i x hx => joint_fits HF.out.1 HF.out.2 (by have := HLX.out.1; omega) (by have := HLX.out.2; omega) (fun j y hy => by
     have := part_in tb 0 HPA.out.2.1.1 HPA.out.2.1.2.1 j y (Nat.zero_le _) (by have := HPA.out.2.1.2.2.1; have := (List.getElem?_eq_some_iff.1 hy).1; omega) hy
     have h9 : tb.size = r + 1 := by have := HPA.out.2.1.2.2.1; have := HLX.out.2; omega
     rw [h9] at this
     exact ⟨fun q => by have := this.1 q; omega, fun q => by have := this.2 q; omega⟩) i x hx) j hj
    rw [HLEN.out, joint_wh] at this; exact this)
   clear hown1 hgrow hnil hB1 hroot hj2 hlen hN2
   go_wp2_with fail
   rw [HK.out]
   refine (HM.out _ _ _ HN2.out HJP.out).mono ?_
   rintro e w5 ⟨rfl, hB5⟩
   have HB10 := Lib.hid (HB9.out.trans (hB5.mono hB1s))
   have HN3 := Lib.hid (HN2.out.below hB5 l2)
   clear hB5
   go_wp2
   go_loopw [8, 13] (fun rv jv wr => ∃ j : Nat, k ≤ j ∧ j ≤ s.length + 1 ∧ jv = .int .i64 (j : Int) ∧ Below w.heap.size w wr ∧ NodesAt wr g2 0 (joint xs ys)) (fun _ jv _ => s.length + 1 - (RowKit.intOf jv).toNat)
   case atStart => exact ⟨k, Nat.le_refl _, by omega, rfl, HB10.out, HN3.out⟩
   case round =>
    obtain ⟨j, hkj, hj, rfl, hBr, hNr⟩ := hrel
    have HBR := Lib.hid (And.intro hBr hNr)
    clear hBr hNr
    by_cases hlt : j ≤ s.length
    ·have hli : (j : Int) ≤ (s.length : Int) := by omega
     have hA := fun W h => HW1.out W h j hlt
     have hC := fun W h => HW2.out W h j hlt
     have hD := fun W h hn => HW3.out W h hn j hlt
     generalize whR s ta k j = X at hA hD
     generalize whR s tb k j = Y at hC hD
     have HA := Lib.hid hA
     have HC := Lib.hid hC
     have HD := Lib.hid hD
     clear hA hC hD
     cases X <;> cases Y
     all_goals
      go_wp2_with fail
      refine (HA.out _ HBR.out.1).mono ?_
      rintro e wa ⟨⟨da, rfl⟩, hBa⟩
      have hs0 := HBR.out.1.size
      have hBa2 := HBR.out.1.trans (hBa.mono hs0)
      have hs1 := hBa2.size
      have hNa := HBR.out.2.below hBa HBR.out.2.lt
      have HBA := Lib.hid (And.intro (hBa2.alloc hs1 (.cells (cH da) 27)) (hNa.below ((Below.refl _ wa).alloc (Nat.le_refl _) (.cells (cH da) 27)) hNa.lt))
      clear hBa hBa2 hNa
      unfold capV
      go_wp2_with fail
      refine (HC.out _ HBA.out.1).mono ?_
      rintro e wb ⟨⟨db, rfl⟩, hBb⟩
      have hs2 := HBA.out.1.size
      have hBb2 := HBA.out.1.trans (hBb.mono hs2)
      have hs3 := hBb2.size
      have hNb := HBA.out.2.below hBb HBA.out.2.lt
      have HBB := Lib.hid (And.intro (hBb2.alloc hs3 (.cells (cH db) 27)) (hNb.below ((Below.refl _ wb).alloc (Nat.le_refl _) (.cells (cH db) 27)) hNb.lt))
      clear hBb hBb2 hNb
      unfold capV
      go_wp2_with fail
      refine (HD.out _ HBB.out.1 HBB.out.2).mono ?_
      rintro e wc ⟨⟨dc, rfl⟩, hBc⟩
      have hs4 := HBB.out.1.size
      have hBc2 := HBB.out.1.trans (hBc.mono hs4)
      have hs5 := hBc2.size
      have hNc := HBB.out.2.below hBc HBB.out.2.lt
      have HBC := Lib.hid (And.intro (hBc2.alloc hs5 (.cells (cH dc) 27)) (hNc.below ((Below.refl _ wc).alloc (Nat.le_refl _) (.cells (cH dc) 27)) hNc.lt))
      clear hBc hBc2 hNc
      unfold capV
      simp only [Bool.or_false, Bool.or_true, Bool.or_self]
      go_wp2
      go_roundw
      case rel => exact ⟨j + 1, by omega, by omega, by go_num, HBC.out.1, HBC.out.2⟩
      case measure => (simp [RowKit.intOf]) <;> omega
    ·obtain rfl : j = s.length + 1 := by omega
     go_wp2
     go_ret
     exact ⟨rfl, HBR.out.1⟩
theorem matchAltsB (pa : Option Addr) (na ca : Nat) (xs : List Nd) (pb : Option Addr) (nb cb : Nat) (ys : List Nd) (t : ByteArray) (i : Nat) (w : World) (hA : Nodes w pa na xs) (hB : Nodes w pb nb ys) (hs : t.size ≤ reachBytes) (hi : i < 256) (hf : Fit4 w) :
  Calls Tryz.prog 8 #[.slice pa na ca, .slice pb nb cb, .string t, .int .u8 (i : Int)] w fun e w' => e = .returned (.bool true) ∧ Below w.heap.size w w' := by
 obtain ⟨s, rfl⟩ : ∃ s : List UInt8, t = ⟨s.toArray⟩ := ⟨t.data.toList, by simp⟩
 have hsh : (∀ W, Below w.heap.size w W → Calls Tryz.prog 10 #[] W fun e w' => e = .returned (.bool true) ∧ Below W.heap.size W w') := fun W h => shown6_c W (hf.below h) (hf.below h).f.fit.tab (hf.below h).f.fit.pos
 have hba : ∀ W, Below w.heap.size w W → Calls Tryz.prog 9 #[.slice pa na ca, .string ⟨s.toArray⟩] W fun e w' => e = .returned (.bool (bdR xs s)) ∧ Below W.heap.size W w' := fun W h => (bounded_c pa na ca xs s W (hA.below h)).mono fun e w' ⟨a, b⟩ => ⟨a, b ▸ Below.refl _ _⟩
 have hbb : ∀ W, Below w.heap.size w W → Calls Tryz.prog 9 #[.slice pb nb cb, .string ⟨s.toArray⟩] W fun e w' => e = .returned (.bool (bdR ys s)) ∧ Below W.heap.size W w' := fun W h => (bounded_c pb nb cb ys s W (hB.below h)).mono fun e w' ⟨a, b⟩ => ⟨a, b ▸ Below.refl _ _⟩
 cases h1 : bdR xs s with
 | false => rw [h1] at hba; exact alts_1 pa na ca pb nb cb s i w hba hsh
 | true =>
  rw [h1] at hba
  cases h2 : bdR ys s with
  | false => rw [h2] at hbb; exact alts_2 pa na ca pb nb cb s i w hba hbb hsh
  | true =>
   rw [h2] at hbb
   have hl1 := bd_len h1
   have hl2 := bd_len h2
   by_cases ha : ∃ t, IsPat xs t
   ·have hma : ∀ W, Below w.heap.size w W → Calls Tryz.prog 30 #[.slice pa na ca] W fun e w' => e = .returned (.bool true) ∧ Below W.heap.size W w' := fun W h => may_n pa na ca xs true ⟨fun _ => ha, fun _ => rfl⟩ W (hA.below h)
    by_cases hb : ∃ t, IsPat ys t
    ·have hmb : ∀ W, Below w.heap.size w W → Calls Tryz.prog 30 #[.slice pb nb cb] W fun e w' => e = .returned (.bool true) ∧ Below W.heap.size W w' := fun W h => may_n pb nb cb ys true ⟨fun _ => hb, fun _ => rfl⟩ W (hB.below h)
     obtain ⟨ta, hpa⟩ := ha
     obtain ⟨tb, hpb⟩ := hb
     have n1 : 1 ≤ na := by
      have h3 := hpa.2.2.1
      have := ta.size_pos
      have := hA.len
      omega
     have n2 : 1 ≤ nb := by
      have h3 := hpb.2.2.1
      have := tb.size_pos
      have := hB.len
      omega
     obtain ⟨b1, o1, rfl⟩ := hA.ptr n1
     obtain ⟨b2, o2, rfl⟩ := hB.ptr n2
     have hX := hA.at' n1 b1 o1 rfl
     have hY := hB.at' n2 b2 o2 rfl
     have lx := hA.len
     have ly := hB.len
     have hga : ∀ W, Below w.heap.size w W → Calls Tryz.prog 27 #[.slice (some ⟨b1, o1, none⟩) na ca] W fun e w' => e = .returned (.int .i64 ((ta.groups : Nat) : Int)) ∧ Below W.heap.size W w' := fun W h => by
      have := groups_in b1 o1 na ca xs lx n1 (by omega) hA.fits ⟨ta, hpa⟩ W (hX.below h hX.lt)
      rw [← lx, pat_groups hpa] at this
      rw [lx] at this; exact this
     have hgb : ∀ W, Below w.heap.size w W → Calls Tryz.prog 27 #[.slice (some ⟨b2, o2, none⟩) nb cb] W fun e w' => e = .returned (.int .i64 ((tb.groups : Nat) : Int)) ∧ Below W.heap.size W w' := fun W h => by
      have := groups_in b2 o2 nb cb ys ly n2 (by omega) hB.fits ⟨tb, hpb⟩ W (hY.below h hY.lt)
      rw [← ly, pat_groups hpb] at this
      rw [ly] at this; exact this
     have g1 : ta.groups ≤ 1000 := by rw [← pat_groups hpa]; have := gcnt_le xs xs.length; omega
     have g2 : tb.groups ≤ 1000 := by rw [← pat_groups hpb]; have := gcnt_le ys ys.length; omega
     by_cases hg : 0 < ta.groups + tb.groups
     ·exact alts_5 _ na ca _ nb cb s i w ta.groups tb.groups hg g1 g2 hba hbb hma hmb hga hgb hsh
     ·have ga : ta.groups = 0 := by omega
      have gb : tb.groups = 0 := by omega
      by_cases h20 : 20 < na + nb
      ·exact alts_6 _ na ca _ nb cb s i w ta.groups tb.groups ga gb h20 (by omega) (by omega) hba hbb hma hmb hga hgb hsh
      ·obtain ⟨q, rfl⟩ : ∃ q, na = q + 1 := ⟨na - 1, by omega⟩
       obtain ⟨r, rfl⟩ : ∃ r, nb = r + 1 := ⟨nb - 1, by omega⟩
       rw [ga] at hga
       rw [gb] at hgb
       refine alts_go b1 o1 q ca xs b2 o2 r cb ys s i _ w ta tb lx ly (by omega) hl1.2 hi rfl hX hY hA.fits hB.fits hpa hpb ga gb hba hbb hma hmb hga hgb hsh (fun W g cap hn hp => ?_) (fun W b o cap zs t h hn hp hr hfz j hj => ?_)
       ·have hlen : (joint xs ys).length = q + 1 + (r + 1) + 1 := by rw [joint_len, lx, ly]
        have hfit : ∀ (i : Nat) (x : Nd), (joint xs ys)[i]? = some x → x.Fits := joint_fits hA.fits hB.fits (by omega) (by omega) (fun j y hy => by
         have := part_in tb 0 hpb.1 hpb.2.1 j y (Nat.zero_le _) (by have := hpb.2.2.1; have := (List.getElem?_eq_some_iff.1 hy).1; omega) hy
         have h9 : tb.size = r + 1 := by have := hpb.2.2.1; omega
         rw [h9] at this
         exact ⟨fun q => by have := this.1 q; omega, fun q => by have := this.2 q; omega⟩)
        exact may_n (some ⟨g, 0, none⟩) _ cap (joint xs ys) true ⟨fun _ => ⟨_, hp⟩, fun _ => rfl⟩ W ⟨hlen, by omega, fun _ => ⟨g, 0, rfl⟩, fun _ b o e => by cases e; exact hn, hfit⟩
       ·have hks : i % (s.length + 1) ≤ s.length := by have := Nat.mod_lt i (show 0 < s.length + 1 by omega); omega
        exact (Whole_c b o cap s zs t hp hfz (by omega) (fun h0 => by omega) _ j hks hj W hn (tab_below hf.f.fit.tab h hf.f.fit.pos) (Nat.lt_of_lt_of_le hf.f.fit.pos h.size)).mono fun e w' ⟨he, hb⟩ => ⟨⟨_, he⟩, hb⟩
    ·exact alts_4 pa na ca pb nb cb s i w hba hbb hma (fun W h => may_n pb nb cb ys false ⟨fun q => (by cases q), fun q => absurd q hb⟩ W (hB.below h)) hsh
   ·exact alts_3 pa na ca pb nb cb s i w hba hbb (fun W h => may_n pa na ca xs false ⟨fun q => (by cases q), fun q => absurd q ha⟩ W (hA.below h)) hsh
end Go.Proofs.YtibkllialokdeaaGreatDoor
