/- head. -/
import Derived.Test.YtdjcgjkbecncaaaGreatDoorJRxX
import Derived.Test.YtdjcgjkbecncaaaGreatDoorJShelf
import Derived.Lib.AppendIntMem
import Derived.Lib.ItoaLen
import Derived.Test.YtdjcgjkbecncaaaGreatDoorJRxTd
import Derived.Lib.SmallJoins
import Derived.Test.YtdjcgjkbecncaaaGreatDoorJSetE
import Derived.Lib.AtoiAllCases
import Derived.Lib.IndexMore
import Derived.Lib.IndexBytes
set_option linter.unusedVariables false
set_option linter.unusedSimpArgs false
set_option maxRecDepth 100000
set_option maxHeartbeats 40000000
namespace Go.Proofs.YtdjcgjkbecncaaaGreatDoor
open Go.RowKit Go.Lib
structure Fit3 (w : World) : Prop where
 fit : Fit w
 pow : Lib.TabIs Tryz.prog w "internal/strconv.uint64pow10" .u64 Lib.pow10Tab
theorem Fit3.below {w w' : World} (h : Fit3 w) (hB : Below w.heap.size w w') : Fit3 w' := ⟨h.fit.below hB, Lib.tabBelow_of_tabIs h.pow w' hB⟩
theorem itoa_c (n : Int) (h0 : -9223372036854775808 ≤ n) (h1 : n ≤ 9223372036854775807) (w : World) (h : Fit3 w) :
  Calls Tryz.prog 79 #[.int .i64 n] w fun e w' => e = .returned (.string ⟨(itoa n).toArray⟩) ∧ Below w.heap.size w w' := by
 refine (Tryz.strconv_Itoa n h0 h1 w h.pow).mono ?_
 rintro e w' ⟨rfl, k, os, rfl⟩
 exact ⟨rfl, Lib.below_grow _ _ (Nat.le_refl _) k os⟩
def headText (x : Nd) : List UInt8 :=
 if x.kind = 0 then [101] else if x.kind = 1 then 91 :: (hexl (bytesOf x.set).data.toList ++ [93]) else if x.kind = 2 then [94] else if x.kind = 3 then [36] else if x.kind = 4 then [38] else if x.kind = 5 then [124]
 else if x.kind = 6 then 42 :: (itoa x.mn ++ 44 :: (itoa x.mx ++ [59])) else if x.kind = 7 then [40] else 92 :: itoa x.n
theorem head_k (kd : Int) (w0 w1 w2 w3 : Nat) (xa xb m M xn : Int) (hx : Nd.Fits ⟨kd, w0, w1, w2, w3, xa, xb, m, M, xn⟩) (hk : kd = 0 ∨ kd = 1 ∨ kd = 2 ∨ kd = 3 ∨ kd = 4 ∨ kd = 5 ∨ kd = 6 ∨ kd = 7 ∨ kd = 8) (w : World) (hw : Fit3 w) :
  Calls Tryz.prog 43 #[.agg #[.int .i64 kd, .int .u64 w0, .int .u64 w1, .int .u64 w2, .int .u64 w3, .int .i64 xa, .int .i64 xb, .int .i64 m, .int .i64 M, .int .i64 xn]] w fun e w' => e = .returned (.string ⟨(headText ⟨kd, w0, w1, w2, w3, xa, xb, m, M, xn⟩).toArray⟩) ∧ Below w.heap.size w w' := by
 have bA : ∀ ob, Below w.heap.size w (w.alloc ob) := fun ob => (Below.refl _ w).alloc (Nat.le_refl _) ob
 rcases hk with rfl | rfl | rfl | rfl | rfl | rfl | rfl | rfl | rfl
 ·have hb := Lib.hid bA
  clear bA
  go_enter Tryz.func43, Tryz.ntmps43
  go_wp2
  go_ret
  exact ⟨rfl, hb.out _⟩
 ·obtain ⟨s, hs⟩ : ∃ s, s = (⟨1, w0, w1, w2, w3, xa, xb, m, M, xn⟩ : Nd).set := ⟨_, rfl⟩
  obtain ⟨a0, a1, a2, a3⟩ := ofWords_wd hx.s0 hx.s1 hx.s2 hx.s3
  have hsz := bytesOf_size s
  have hcn := cnt_le s 256
  have HB := Lib.hid fun w (hw : Fit w) => bytes_fit s w hw
  have HH := Lib.hid fun w => hexof_c (bytesOf s) (by omega) w
  have hf := (hw.below (bA (.cells #[.int .i64 1, .int .u64 w0, .int .u64 w1, .int .u64 w2, .int .u64 w3, .int .i64 xa, .int .i64 xb, .int .i64 m, .int .i64 M, .int .i64 xn] 37))).fit
  have hb := Lib.hid bA
  have hsv : (sv s) = .agg #[.int .u64 w0, .int .u64 w1, .int .u64 w2, .int .u64 w3] := by
   rw [hs]; unfold sv
   show Value.agg #[.int .u64 (wd (ofWords w0 w1 w2 w3) 0), .int .u64 (wd (ofWords w0 w1 w2 w3) 1), .int .u64 (wd (ofWords w0 w1 w2 w3) 2), .int .u64 (wd (ofWords w0 w1 w2 w3) 3)] = _
   rw [a0, a1, a2, a3]
  rw [hsv] at HB
  obtain ⟨H, hH⟩ : ∃ H, H = strOfNums (hexn (bytesOf s) (bytesOf s).size) := ⟨_, rfl⟩
  have hl : H.size ≤ 512 := by rw [hH, strOfNums_size, hexn_len _ _ (Nat.le_refl _)]; omega
  have hd : H.data.toList = hexl (bytesOf s).data.toList := by
   rw [hH, strOfNums_data]
   have e : (bytesOf s).data.toList.length = (bytesOf s).size := by simp
   unfold hexn
   rw [List.take_of_length_le (by omega), List.map_map]
   have hid : ∀ c : UInt8, UInt8.ofNat ((c.toNat : Int)).toNat = c := fun c => by simp
   simp [Function.comp_def, hid]
  rw [← hH] at HH
  have HD := Lib.hid hd
  have HS := Lib.hid hs
  clear hd hH
  clear bA hs hsv a0 a1 a2 a3 hsz hcn
  go_enter Tryz.func43, Tryz.ntmps43
  go_wp2_with fail
  refine (HB.out _ hf).mono ?_
  rintro e w5 ⟨rfl, hB5⟩
  have b5 := (hb.out _).trans (hB5.mono (hb.out _).size)
  go_wp2_with fail
  refine (HH.out _).mono ?_
  rintro e w6 ⟨rfl, hB6⟩
  have b6 := b5.trans (hB6.mono b5.size)
  go_wp2
  go_ret
  refine ⟨?_, b6⟩
  show Ending.returned (Value.string ((⟨#[91]⟩ : ByteArray) ++ H ++ ⟨#[93]⟩)) = _
  congr 2
  apply Go.WideShapes.bytes_inj
  have e2 : headText ⟨1, w0, w1, w2, w3, xa, xb, m, M, xn⟩ = 91 :: (hexl (bytesOf s).data.toList ++ [93]) := by rw [HS.out]; rfl
  rw [e2, ← HD.out]
  simp
 ·have hb := Lib.hid bA
  clear bA
  go_enter Tryz.func43, Tryz.ntmps43
  go_wp2
  go_ret
  exact ⟨rfl, hb.out _⟩
 ·have hb := Lib.hid bA
  clear bA
  go_enter Tryz.func43, Tryz.ntmps43
  go_wp2
  go_ret
  exact ⟨rfl, hb.out _⟩
 ·have hb := Lib.hid bA
  clear bA
  go_enter Tryz.func43, Tryz.ntmps43
  go_wp2
  go_ret
  exact ⟨rfl, hb.out _⟩
 ·have hb := Lib.hid bA
  clear bA
  go_enter Tryz.func43, Tryz.ntmps43
  go_wp2
  go_ret
  exact ⟨rfl, hb.out _⟩
 ·have hb := bA (.cells #[.int .i64 6, .int .u64 w0, .int .u64 w1, .int .u64 w2, .int .u64 w3, .int .i64 xa, .int .i64 xb, .int .i64 m, .int .i64 M, .int .i64 xn] 37)
  have h3 := hw.below (bA (.cells #[.int .i64 6, .int .u64 w0, .int .u64 w1, .int .u64 w2, .int .u64 w3, .int .i64 xa, .int .i64 xb, .int .i64 m, .int .i64 M, .int .i64 xn] 37))
  have X := NB.new w ⟨6, w0, w1, w2, w3, xa, xb, m, M, xn⟩
  have c7 : (w.alloc (.cells #[.int .i64 6, .int .u64 w0, .int .u64 w1, .int .u64 w2, .int .u64 w3, .int .i64 xa, .int .i64 xb, .int .i64 m, .int .i64 M, .int .i64 xn] 37)).cell? ⟨w.heap.size, 7, none⟩ = some (.int .i64 m) := X.c 7
  have c8 : (w.alloc (.cells #[.int .i64 6, .int .u64 w0, .int .u64 w1, .int .u64 w2, .int .u64 w3, .int .i64 xa, .int .i64 xb, .int .i64 m, .int .i64 M, .int .i64 xn] 37)).cell? ⟨w.heap.size, 8, none⟩ = some (.int .i64 M) := X.c 8
  have HI := Lib.hid fun w h => itoa_c m hx.mn.1 hx.mn.2 w h
  have HJ := Lib.hid fun w h => itoa_c M hx.mx.1 hx.mx.2 w h
  have hl := itoa_length_le m hx.mn.1 hx.mn.2
  have hl' := itoa_length_le M hx.mx.1 hx.mx.2
  have e2 : headText ⟨6, w0, w1, w2, w3, xa, xb, m, M, xn⟩ = 42 :: (itoa m ++ 44 :: (itoa M ++ [59])) := rfl
  obtain ⟨H, hH⟩ : ∃ H : ByteArray, H = ⟨(itoa m).toArray⟩ := ⟨_, rfl⟩
  obtain ⟨J, hJ⟩ : ∃ H : ByteArray, H = ⟨(itoa M).toArray⟩ := ⟨_, rfl⟩
  have hs : H.size ≤ 21 := by rw [hH]; simpa [ByteArray.size] using hl
  have hs' : J.size ≤ 21 := by rw [hJ]; simpa [ByteArray.size] using hl'
  rw [← hH] at HI
  rw [← hJ] at HJ
  have HD := Lib.hid (show H.data.toList = itoa m by rw [hH])
  have HE := Lib.hid (show J.data.toList = itoa M by rw [hJ])
  rw [e2]
  clear bA e2 hH hl hJ hl' X
  go_enter Tryz.func43, Tryz.ntmps43
  go_wp2_with fail
  refine wp_region_noPanic ?_
  refine wp_region_held_drew (S := fun w' => (w'.cell? ⟨w.heap.size, 7, none⟩ = some (.int .i64 m) ∧ w'.cell? ⟨w.heap.size, 8, none⟩ = some (.int .i64 M)) ∧ Fit3 w' ∧ Below w.heap.size w w') (by kernel_rfl) ?_ (fun hHeld => ?_)
  ·(try dsimp only); exact ⟨⟨c7, c8⟩, ⟨⟨h3.fit.tab, h3.fit.pos⟩, h3.pow⟩, hb.drew⟩
  refine wpAnyH_take (i := 0) (v := ?_) rfl (by kernel_rfl) (by kernel_rfl) (by kernel_rfl) (fun _ _ _ h => h) (Or.inl ⟨by kernel_rfl, ?_⟩) (by assumption) ?_
  rotate_left
  ·(intro w hSw; (try dsimp only at hSw); go_simp); (try with_reducible rfl)
  try simp only [Act.put, laS]
  refine wpAnyH_take (i := 1) (v := ?_) rfl (by kernel_rfl) (by kernel_rfl) (by kernel_rfl) (fun _ _ _ h => h) (Or.inl ⟨by kernel_rfl, ?_⟩) (by assumption) ?_
  rotate_left
  ·(intro w hSw; (try dsimp only at hSw); go_simp); (try with_reducible rfl)
  try simp only [Act.put, laS]
  refine wpAnyH_take (i := 5) (v := ?_) rfl (by kernel_rfl) (by kernel_rfl) (by kernel_rfl) (fun _ _ _ h => h) (Or.inl ⟨by kernel_rfl, ?_⟩) (by assumption) ?_
  rotate_left
  ·(intro w hSw; (try dsimp only at hSw); go_simp); (try with_reducible rfl)
  try simp only [Act.put, laS]
  refine wpAnyH_take (i := 6) (v := ?_) rfl (by kernel_rfl) (by kernel_rfl) (by kernel_rfl) (fun _ _ _ h => h) (Or.inl ⟨by kernel_rfl, ?_⟩) (by assumption) ?_
  rotate_left
  ·(intro w hSw; (try dsimp only at hSw); go_simp); (try with_reducible rfl)
  try simp only [Act.put, laS]
  refine wpAnyH_ready (rs := [2]) (by kernel_rfl) (by simp) ?_
  refine AllReadyH.cons rfl (fun K hK => ?_) ?_
  rotate_left
  ·exact AllReadyH.nil
  go_simp
  obtain ⟨⟨c7, c8⟩, h3, hb⟩ := hHeld
  refine (HI.out _ h3).mono ?_
  rintro e wN ⟨rfl, hBN⟩
  have c7 := cell_keep hBN c7; have c8 := cell_keep hBN c8; have h3 := h3.below hBN; have hb := hb.trans (hBN.mono hb.size)
  clear hBN
  refine hK.out _ _ ?_ (fun hHeld => ?_)
  ·(try dsimp only); exact ⟨⟨c7, c8⟩, h3, hb⟩
  clear hK K
  try simp only [Act.put, laS]
  refine wpAnyH_take (i := 3) (v := .string ((⟨#[42]⟩ : ByteArray) ++ H)) rfl (by kernel_rfl) (by kernel_rfl) (by kernel_rfl) (fun _ _ _ h => h) (Or.inl ⟨by kernel_rfl, fun w _ => by go_simp; omega⟩) (by assumption) ?_
  try simp only [Act.put, laS]
  refine wpAnyH_take (i := 4) (v := .string ((⟨#[42]⟩ : ByteArray) ++ H ++ ⟨#[44]⟩)) rfl (by kernel_rfl) (by kernel_rfl) (by kernel_rfl) (fun _ _ _ h => h) (Or.inl ⟨by kernel_rfl, fun w _ => by go_simp; omega⟩) (by assumption) ?_
  try simp only [Act.put, laS]
  refine wpAnyH_ready (rs := [7]) (by kernel_rfl) (by simp) ?_
  refine AllReadyH.cons rfl (fun K hK => ?_) ?_
  rotate_left
  ·exact AllReadyH.nil
  go_simp
  obtain ⟨⟨c7, c8⟩, h3, hb⟩ := hHeld
  refine (HJ.out _ h3).mono ?_
  rintro e wN ⟨rfl, hBN⟩
  have c7 := cell_keep hBN c7; have c8 := cell_keep hBN c8; have h3 := h3.below hBN; have hb := hb.trans (hBN.mono hb.size)
  clear hBN
  refine hK.out _ _ ?_ (fun hHeld => ?_)
  ·(try dsimp only); exact ⟨⟨c7, c8⟩, h3, hb⟩
  clear hK K
  try simp only [Act.put, laS]
  refine wpAnyH_take (i := 8) (v := .string ((⟨#[42]⟩ : ByteArray) ++ H ++ ⟨#[44]⟩ ++ J)) rfl (by kernel_rfl) (by kernel_rfl) (by kernel_rfl) (fun _ _ _ h => h) (Or.inl ⟨by kernel_rfl, fun w _ => by go_simp; omega⟩) (by assumption) ?_
  try simp only [Act.put, laS]
  refine wpAnyH_take (i := 9) (v := .string ((⟨#[42]⟩ : ByteArray) ++ H ++ ⟨#[44]⟩ ++ J ++ ⟨#[59]⟩)) rfl (by kernel_rfl) (by kernel_rfl) (by kernel_rfl) (fun _ _ _ h => h) (Or.inl ⟨by kernel_rfl, fun w _ => by go_simp; omega⟩) (by assumption) ?_
  try simp only [Act.put, laS]
  refine wpAnyH_take (i := 10) (v := ?_) rfl (by kernel_rfl) (by kernel_rfl) (by kernel_rfl) (fun _ _ _ h => h) (Or.inl ⟨by kernel_rfl, ?_⟩) (by assumption) ?_
  rotate_left
  ·(intro w hSw; (try dsimp only at hSw); go_simp); (try with_reducible rfl)
  try simp only [Act.put, laS]
  refine wpAnyH_done (by kernel_rfl) ?_ _
  refine NoPanic.normal ?_
  go_wp2
  go_ret
  refine ⟨?_, by with_reducible assumption⟩
  show Ending.returned (Value.string ((⟨#[42]⟩ : ByteArray) ++ H ++ ⟨#[44]⟩ ++ J ++ ⟨#[59]⟩)) = _
  congr 2
  apply Go.WideShapes.bytes_inj
  rw [← HD.out, ← HE.out]
  simp
 ·have hb := Lib.hid bA
  clear bA
  go_enter Tryz.func43, Tryz.ntmps43
  go_wp2
  go_ret
  exact ⟨rfl, hb.out _⟩
 ·have hb := Lib.hid bA
  have h3 := hw.below (bA (.cells #[.int .i64 8, .int .u64 w0, .int .u64 w1, .int .u64 w2, .int .u64 w3, .int .i64 xa, .int .i64 xb, .int .i64 m, .int .i64 M, .int .i64 xn] 37))
  have HI := Lib.hid fun w h => itoa_c xn hx.n.1 hx.n.2 w h
  have hl := itoa_length_le xn hx.n.1 hx.n.2
  have e2 : headText ⟨8, w0, w1, w2, w3, xa, xb, m, M, xn⟩ = 92 :: itoa xn := rfl
  obtain ⟨H, hH⟩ : ∃ H : ByteArray, H = ⟨(itoa xn).toArray⟩ := ⟨_, rfl⟩
  have hs : H.size ≤ 21 := by rw [hH]; simpa [ByteArray.size] using hl
  rw [← hH] at HI
  have HD := Lib.hid (show H.data.toList = itoa xn by rw [hH])
  rw [e2]
  clear bA e2 hH hl
  go_enter Tryz.func43, Tryz.ntmps43
  go_wp2_with (go_at_call 79; refine (HI.out _ h3).mono ?_; rintro e w5 ⟨rfl, hB5⟩)
  go_ret
  refine ⟨?_, (hb.out _).trans (hB5.mono (hb.out _).size)⟩
  show Ending.returned (Value.string ((⟨#[92]⟩ : ByteArray) ++ H)) = _
  congr 2
  apply Go.WideShapes.bytes_inj
  rw [← HD.out]
  simp
end Go.Proofs.YtdjcgjkbecncaaaGreatDoor
namespace Go.Proofs.YtdjcgjkbecncaaaGreatDoor
open Go.RowKit Go.Lib
def MaxLen (w : World) : Prop := ∃ m, w.cell? ⟨1, 0, none⟩ = some (.int .i64 m)
end Go.Proofs.YtdjcgjkbecncaaaGreatDoor
namespace Go.Proofs.YtdjcgjkbecncaaaGreatDoor
open Go.RowKit Go.Lib
structure Vars (w : World) : Prop where
 max : MaxLen w
 syn : ∃ tp p, w.var? Tryz.prog "strconv.ErrSyntax" = some #[.iface tp p]
 rng : ∃ tp p, w.var? Tryz.prog "strconv.ErrRange" = some #[.iface tp p]
theorem World.lt_of_cell {w : World} {a : Addr} {v : Value} (h : w.cell? a = some v) : a.block < w.heap.size := by
 rcases Nat.lt_or_ge a.block w.heap.size with q | q
 ·exact q
 ·unfold World.cell? at h
  rw [Array.getElem?_eq_none q] at h
  simp at h
theorem synNamed : ∃ g, Tryz.prog.globalNamed "strconv.ErrSyntax" = some g := Option.isSome_iff_exists.1 (by kernel_rfl)
theorem rngNamed : ∃ g, Tryz.prog.globalNamed "strconv.ErrRange" = some g := Option.isSome_iff_exists.1 (by kernel_rfl)
theorem MaxLen.below {w w' : World} (h : MaxLen w) (hB : Below w.heap.size w w') : MaxLen w' := by
 obtain ⟨m, h⟩ := h
 exact ⟨m, (hB.cell (World.lt_of_cell h)).trans h⟩
theorem Vars.below {w w' : World} (h : Vars w) (hB : Below w.heap.size w w') : Vars w' := by
 obtain ⟨h1, ⟨t, p, h2⟩, ⟨t', p', h3⟩⟩ := h
 obtain ⟨g, hg⟩ := synNamed
 obtain ⟨g', hg'⟩ := rngNamed
 exact ⟨h1.below hB, ⟨t, p, Joins.var_stays hg h2 hB (Nat.le_refl _)⟩, ⟨t', p', Joins.var_stays hg' h3 hB (Nat.le_refl _)⟩⟩
end Go.Proofs.YtdjcgjkbecncaaaGreatDoor
namespace Go.Proofs.YtdjcgjkbecncaaaGreatDoor
open Go.RowKit Go.Lib
def dig3 (n : Nat) : List UInt8 := if n < 10 then [UInt8.ofNat (48 + n)] else if n < 100 then [UInt8.ofNat (48 + n / 10), UInt8.ofNat (48 + n % 10)] else [UInt8.ofNat (48 + n / 100), UInt8.ofNat (48 + n / 10 % 10), UInt8.ofNat (48 + n % 10)]
theorem dec3 (n : Nat) (h : n < 1000) : decDigits n = dig3 n := by
 unfold dig3
 by_cases h1 : n < 10
 ·rw [if_pos h1, decDigits_one h1]
 ·rw [if_neg h1]
  by_cases h2 : n < 100
  ·rw [if_pos h2, decDigits_two h1 h2]
  ·rw [if_neg h2, decDigits, dif_neg h1, decDigits_two (by omega) (by omega), Nat.div_div_eq_div_mul]
   simp
end Go.Proofs.YtdjcgjkbecncaaaGreatDoor
namespace Go.Proofs.YtdjcgjkbecncaaaGreatDoor
open Go.RowKit Go.Lib
def T.nodes : T → Nat → List Nd
 | .leaf x, _ => [x]
 | .two k a b, o => a.nodes o ++ (b.nodes (o + a.size) ++ [T.root (.two k a b) o])
 | .times m M t, o => t.nodes o ++ [T.root (.times m M t) o]
 | .group n t, o => t.nodes o ++ [T.root (.group n t) o]
theorem T.nodes_len : ∀ (t : T) (o : Nat), (t.nodes o).length = t.size
 | .leaf x, o => rfl
 | .two k a b, o => by simp [T.nodes, T.size, T.nodes_len a, T.nodes_len b]; omega
 | .times m M t, o => by simp [T.nodes, T.size, T.nodes_len t]
 | .group n t, o => by simp [T.nodes, T.size, T.nodes_len t]
theorem T.At.nodes {l : Nat → Option Nd} : ∀ (t : T) (o : Nat), T.At l t o → ∀ i, i < t.size → l (o + i) = (t.nodes o)[i]?
 | .leaf x, o, h, i, hi => by
  simp only [T.size] at hi
  obtain rfl : i = 0 := by omega
  exact h
 | .two k a b, o, ⟨h1, h2, h3⟩, i, hi => by
  simp only [T.size] at hi
  simp only [T.nodes]
  rcases Nat.lt_or_ge i a.size with c | c
  ·rw [List.getElem?_append_left (by rw [T.nodes_len]; exact c)]
   exact T.At.nodes a o h1 i c
  ·rw [List.getElem?_append_right (by rw [T.nodes_len]; exact c), T.nodes_len]
   rcases Nat.lt_or_ge (i - a.size) b.size with d | d
   ·rw [List.getElem?_append_left (by rw [T.nodes_len]; exact d), ← T.At.nodes b _ h2 _ d]
    congr 1; omega
   ·rw [List.getElem?_append_right (by rw [T.nodes_len]; exact d), T.nodes_len]
    have e : i - a.size - b.size = 0 := by omega
    rw [e, show o + i = o + a.size + b.size by omega, h3]
    rfl
 | .times m M t, o, ⟨h1, h3⟩, i, hi => by
  simp only [T.size] at hi
  simp only [T.nodes]
  rcases Nat.lt_or_ge i t.size with c | c
  ·rw [List.getElem?_append_left (by rw [T.nodes_len]; exact c)]
   exact T.At.nodes t o h1 i c
  ·rw [List.getElem?_append_right (by rw [T.nodes_len]; exact c), T.nodes_len]
   have e : i - t.size = 0 := by omega
   rw [e, show o + i = o + t.size by omega, h3]
   rfl
 | .group n t, o, ⟨h1, h3⟩, i, hi => by
  simp only [T.size] at hi
  simp only [T.nodes]
  rcases Nat.lt_or_ge i t.size with c | c
  ·rw [List.getElem?_append_left (by rw [T.nodes_len]; exact c)]
   exact T.At.nodes t o h1 i c
  ·rw [List.getElem?_append_right (by rw [T.nodes_len]; exact c), T.nodes_len]
   have e : i - t.size = 0 := by omega
   rw [e, show o + i = o + t.size by omega, h3]
   rfl
theorem IsPat.nodes {xs : List Nd} {t : T} (h : IsPat xs t) : xs = t.nodes 0 := by
 obtain ⟨_, ha, hs, _⟩ := h
 apply List.ext_getElem?
 intro i
 rcases Nat.lt_or_ge i t.size with c | c
 ·have := T.At.nodes t 0 ha i c
  rw [Nat.zero_add] at this
  exact this
 ·rw [List.getElem?_eq_none (by omega), List.getElem?_eq_none (by rw [T.nodes_len]; exact c)]
end Go.Proofs.YtdjcgjkbecncaaaGreatDoor
