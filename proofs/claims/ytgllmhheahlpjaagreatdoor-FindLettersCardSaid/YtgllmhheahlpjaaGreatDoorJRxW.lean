/- head. -/
import Derived.Test.YtgllmhheahlpjaaGreatDoorJRxX
import Derived.Test.YtgllmhheahlpjaaGreatDoorJShelf
import Derived.Lib.AppendIntMem
import Derived.Lib.ItoaLen
import Derived.Test.YtgllmhheahlpjaaGreatDoorJRxU
import Derived.Lib.SmallJoins
import Derived.Lib.IndexMore
import Derived.Lib.IndexBytes
set_option linter.unusedVariables false
set_option linter.unusedSimpArgs false
set_option maxRecDepth 100000
set_option maxHeartbeats 40000000
namespace Go.Proofs.YtgllmhheahlpjaaGreatDoor
open Go.RowKit Go.Lib
structure Fit3 (w : World) : Prop where
 fit : Fit w
 pow : Lib.TabIs Tryz.prog w "internal/strconv.uint64pow10" .u64 Lib.pow10Tab
theorem Fit3.below {w w' : World} (h : Fit3 w) (hB : Below w.heap.size w w') : Fit3 w' := ⟨h.fit.below hB, Lib.tabBelow_of_tabIs h.pow w' hB⟩
theorem itoa_c (n : Int) (h0 : -9223372036854775808 ≤ n) (h1 : n ≤ 9223372036854775807) (w : World) (h : Fit3 w) :
  Calls Tryz.prog 128 #[.int .i64 n] w fun e w' => e = .returned (.string ⟨(itoa n).toArray⟩) ∧ Below w.heap.size w w' := by
 refine (Tryz.strconv_Itoa n h0 h1 w h.pow).mono ?_
 rintro e w' ⟨rfl, k, os, rfl⟩
 exact ⟨rfl, Lib.below_grow _ _ (Nat.le_refl _) k os⟩
def headText (x : Nd) : List UInt8 :=
 if x.kind = 0 then [101] else if x.kind = 1 then 91 :: (hexl (bytesOf x.set).data.toList ++ [93]) else if x.kind = 2 then [94] else if x.kind = 3 then [36] else if x.kind = 4 then [38] else if x.kind = 5 then [124]
 else if x.kind = 6 then 42 :: (itoa x.mn ++ 44 :: (itoa x.mx ++ [59])) else if x.kind = 7 then [40] else 92 :: itoa x.n
theorem head_k (kd : Int) (w0 w1 w2 w3 : Nat) (xa xb m M xn : Int) (hx : Nd.Fits ⟨kd, w0, w1, w2, w3, xa, xb, m, M, xn⟩) (hk : kd = 0 ∨ kd = 1 ∨ kd = 2 ∨ kd = 3 ∨ kd = 4 ∨ kd = 5 ∨ kd = 6 ∨ kd = 7 ∨ kd = 8) (w : World) (hw : Fit3 w) :
  Calls Tryz.prog 101 #[.agg #[.int .i64 kd, .int .u64 w0, .int .u64 w1, .int .u64 w2, .int .u64 w3, .int .i64 xa, .int .i64 xb, .int .i64 m, .int .i64 M, .int .i64 xn]] w fun e w' => e = .returned (.string ⟨(headText ⟨kd, w0, w1, w2, w3, xa, xb, m, M, xn⟩).toArray⟩) ∧ Below w.heap.size w w' := by
 have bA : ∀ ob, Below w.heap.size w (w.alloc ob) := fun ob => (Below.refl _ w).alloc (Nat.le_refl _) ob
 rcases hk with rfl | rfl | rfl | rfl | rfl | rfl | rfl | rfl | rfl
 ·have hb := Lib.hid bA
  clear bA
  go_enter Tryz.func101, Tryz.ntmps101
  go_wp2
  go_ret
  exact ⟨rfl, hb.out _⟩
 ·obtain ⟨s, hs⟩ : ∃ s, s = (⟨1, w0, w1, w2, w3, xa, xb, m, M, xn⟩ : Nd).set := ⟨_, rfl⟩
  obtain ⟨a0, a1, a2, a3⟩ := ofWords_wd hx.s0 hx.s1 hx.s2 hx.s3
  have hsz := bytesOf_size s
  have hcn := cnt_le s 256
  have HB := Lib.hid fun w (hw : Fit w) => bytes_fit s w hw
  have HH := Lib.hid fun w => hexof_c (bytesOf s) (by omega) w
  have hf := (hw.below (bA (.cells #[.int .i64 1, .int .u64 w0, .int .u64 w1, .int .u64 w2, .int .u64 w3, .int .i64 xa, .int .i64 xb, .int .i64 m, .int .i64 M, .int .i64 xn] 60))).fit
  have hb := Lib.hid bA
  have hsv : (sv s) = .agg #[.int .u64 w0, .int .u64 w1, .int .u64 w2, .int .u64 w3] := by
   rw [hs]; unfold sv
   show Value.agg #[.int .u64 (wd (ofWords w0 w1 w2 w3) 0), .int .u64 (wd (ofWords w0 w1 w2 w3) 1), .int .u64 (wd (ofWords w0 w1 w2 w3) 2), .int .u64 (wd (ofWords w0 w1 w2 w3) 3)] = _
   rw [a0, a1, a2, a3]
  rw [hsv] at HB
  obtain ⟨H, hH⟩ : ∃ H, H = strOfNums (hexn (bytesOf s) (bytesOf s).size) := ⟨_, rfl⟩
  have hl : H.size ≤ 512 := by rw [hH, strOfNums_size, hexn_len _ _ (Nat.le_refl _)]; omega
  have hd : H.data.toList = hexl (bytesOf s).data.toList := by
   rw [hH, strOfNums_data]
   have e : (bytesOf s).data.toList.length = (bytesOf s).size := by simp
   unfold hexn
   rw [List.take_of_length_le (by omega), List.map_map]
   have hid : ∀ c : UInt8, UInt8.ofNat ((c.toNat : Int)).toNat = c := fun c => by simp
   simp [Function.comp_def, hid]
  rw [← hH] at HH
  have HD := Lib.hid hd
  have HS := Lib.hid hs
  clear hd hH
  clear bA hs hsv a0 a1 a2 a3 hsz hcn
  go_enter Tryz.func101, Tryz.ntmps101
  go_wp2_with fail
  refine (HB.out _ hf).mono ?_
  rintro e w5 ⟨rfl, hB5⟩
  have b5 := (hb.out _).trans (hB5.mono (hb.out _).size)
  go_wp2_with fail
  refine (HH.out _).mono ?_
  rintro e w6 ⟨rfl, hB6⟩
  have b6 := b5.trans (hB6.mono b5.size)
  go_wp2
  go_ret
  refine ⟨?_, b6⟩
  show Ending.returned (Value.string ((⟨#[91]⟩ : ByteArray) ++ H ++ ⟨#[93]⟩)) = _
  congr 2
  apply Go.WideShapes.bytes_inj
  have e2 : headText ⟨1, w0, w1, w2, w3, xa, xb, m, M, xn⟩ = 91 :: (hexl (bytesOf s).data.toList ++ [93]) := by rw [HS.out]; rfl
  rw [e2, ← HD.out]
  simp
 ·have hb := Lib.hid bA
  clear bA
  go_enter Tryz.func101, Tryz.ntmps101
  go_wp2
  go_ret
  exact ⟨rfl, hb.out _⟩
 ·have hb := Lib.hid bA
  clear bA
  go_enter Tryz.func101, Tryz.ntmps101
  go_wp2
  go_ret
  exact ⟨rfl, hb.out _⟩
 ·have hb := Lib.hid bA
  clear bA
  go_enter Tryz.func101, Tryz.ntmps101
  go_wp2
  go_ret
  exact ⟨rfl, hb.out _⟩
 ·have hb := Lib.hid bA
  clear bA
  go_enter Tryz.func101, Tryz.ntmps101
  go_wp2
  go_ret
  exact ⟨rfl, hb.out _⟩
 ·have hb := bA (.cells #[.int .i64 6, .int .u64 w0, .int .u64 w1, .int .u64 w2, .int .u64 w3, .int .i64 xa, .int .i64 xb, .int .i64 m, .int .i64 M, .int .i64 xn] 60)
  have h3 := hw.below (bA (.cells #[.int .i64 6, .int .u64 w0, .int .u64 w1, .int .u64 w2, .int .u64 w3, .int .i64 xa, .int .i64 xb, .int .i64 m, .int .i64 M, .int .i64 xn] 60))
  have X := NB.new w ⟨6, w0, w1, w2, w3, xa, xb, m, M, xn⟩
  have c7 : (w.alloc (.cells #[.int .i64 6, .int .u64 w0, .int .u64 w1, .int .u64 w2, .int .u64 w3, .int .i64 xa, .int .i64 xb, .int .i64 m, .int .i64 M, .int .i64 xn] 60)).cell? ⟨w.heap.size, 7, none⟩ = some (.int .i64 m) := X.c 7
  have c8 : (w.alloc (.cells #[.int .i64 6, .int .u64 w0, .int .u64 w1, .int .u64 w2, .int .u64 w3, .int .i64 xa, .int .i64 xb, .int .i64 m, .int .i64 M, .int .i64 xn] 60)).cell? ⟨w.heap.size, 8, none⟩ = some (.int .i64 M) := X.c 8
  have HI := Lib.hid fun w h => itoa_c m hx.mn.1 hx.mn.2 w h
  have HJ := Lib.hid fun w h => itoa_c M hx.mx.1 hx.mx.2 w h
  have hl := itoa_length_le m hx.mn.1 hx.mn.2
  have hl' := itoa_length_le M hx.mx.1 hx.mx.2
  have e2 : headText ⟨6, w0, w1, w2, w3, xa, xb, m, M, xn⟩ = 42 :: (itoa m ++ 44 :: (itoa M ++ [59])) := rfl
  obtain ⟨H, hH⟩ : ∃ H : ByteArray, H = ⟨(itoa m).toArray⟩ := ⟨_, rfl⟩
  obtain ⟨J, hJ⟩ : ∃ H : ByteArray, H = ⟨(itoa M).toArray⟩ := ⟨_, rfl⟩
  have hs : H.size ≤ 21 := by rw [hH]; simpa [ByteArray.size] using hl
  have hs' : J.size ≤ 21 := by rw [hJ]; simpa [ByteArray.size] using hl'
  rw [← hH] at HI
  rw [← hJ] at HJ
  have HD := Lib.hid (show H.data.toList = itoa m by rw [hH])
  have HE := Lib.hid (show J.data.toList = itoa M by rw [hJ])
  rw [e2]
  clear bA e2 hH hl hJ hl' X
  go_enter Tryz.func101, Tryz.ntmps101
  go_wp2_with fail
  refine wp_region_noPanic ?_
  refine wp_region_held_drew (S := fun w' => (w'.cell? ⟨w.heap.size, 7, none⟩ = some (.int .i64 m) ∧ w'.cell? ⟨w.heap.size, 8, none⟩ = some (.int .i64 M)) ∧ Fit3 w' ∧ Below w.heap.size w w') (by kernel_rfl) ?_ (fun hHeld => ?_)
  ·(try dsimp only); exact ⟨⟨c7, c8⟩, ⟨⟨h3.fit.tab, h3.fit.pos⟩, h3.pow⟩, hb.drew⟩
  refine wpAnyH_take (i := 0) (v := ?_) rfl (by kernel_rfl) (by kernel_rfl) (by kernel_rfl) (fun _ _ _ h => h) (Or.inl ⟨by kernel_rfl, ?_⟩) (by assumption) ?_
  rotate_left
  ·(intro w hSw; (try dsimp only at hSw); go_simp); (try with_reducible rfl)
  try simp only [Act.put, laS]
  refine wpAnyH_take (i := 1) (v := ?_) rfl (by kernel_rfl) (by kernel_rfl) (by kernel_rfl) (fun _ _ _ h => h) (Or.inl ⟨by kernel_rfl, ?_⟩) (by assumption) ?_
  rotate_left
  ·(intro w hSw; (try dsimp only at hSw); go_simp); (try with_reducible rfl)
  try simp only [Act.put, laS]
  refine wpAnyH_take (i := 5) (v := ?_) rfl (by kernel_rfl) (by kernel_rfl) (by kernel_rfl) (fun _ _ _ h => h) (Or.inl ⟨by kernel_rfl, ?_⟩) (by assumption) ?_
  rotate_left
  ·(intro w hSw; (try dsimp only at hSw); go_simp); (try with_reducible rfl)
  try simp only [Act.put, laS]
  refine wpAnyH_take (i := 6) (v := ?_) rfl (by kernel_rfl) (by kernel_rfl) (by kernel_rfl) (fun _ _ _ h => h) (Or.inl ⟨by kernel_rfl, ?_⟩) (by assumption) ?_
  rotate_left
  ·(intro w hSw; (try dsimp only at hSw); go_simp); (try with_reducible rfl)
  try simp only [Act.put, laS]
  refine wpAnyH_ready (rs := [2]) (by kernel_rfl) (by simp) ?_
  refine AllReadyH.cons rfl (fun K hK => ?_) ?_
  rotate_left
  ·exact AllReadyH.nil
  go_simp
  obtain ⟨⟨c7, c8⟩, h3, hb⟩ := hHeld
  refine (HI.out _ h3).mono ?_
  rintro e wN ⟨rfl, hBN⟩
  have c7 := cell_keep hBN c7; have c8 := cell_keep hBN c8; have h3 := h3.below hBN; have hb := hb.trans (hBN.mono hb.size)
  clear hBN
  refine hK.out _ _ ?_ (fun hHeld => ?_)
  ·(try dsimp only); exact ⟨⟨c7, c8⟩, h3, hb⟩
  clear hK K
  try simp only [Act.put, laS]
  refine wpAnyH_take (i := 3) (v := .string ((⟨#[42]⟩ : ByteArray) ++ H)) rfl (by kernel_rfl) (by kernel_rfl) (by kernel_rfl) (fun _ _ _ h => h) (Or.inl ⟨by kernel_rfl, fun w _ => by go_simp; omega⟩) (by assumption) ?_
  try simp only [Act.put, laS]
  refine wpAnyH_take (i := 4) (v := .string ((⟨#[42]⟩ : ByteArray) ++ H ++ ⟨#[44]⟩)) rfl (by kernel_rfl) (by kernel_rfl) (by kernel_rfl) (fun _ _ _ h => h) (Or.inl ⟨by kernel_rfl, fun w _ => by go_simp; omega⟩) (by assumption) ?_
  try simp only [Act.put, laS]
  refine wpAnyH_ready (rs := [7]) (by kernel_rfl) (by simp) ?_
  refine AllReadyH.cons rfl (fun K hK => ?_) ?_
  rotate_left
  ·exact AllReadyH.nil
  go_simp
  obtain ⟨⟨c7, c8⟩, h3, hb⟩ := hHeld
  refine (HJ.out _ h3).mono ?_
  rintro e wN ⟨rfl, hBN⟩
  have c7 := cell_keep hBN c7; have c8 := cell_keep hBN c8; have h3 := h3.below hBN; have hb := hb.trans (hBN.mono hb.size)
  clear hBN
  refine hK.out _ _ ?_ (fun hHeld => ?_)
  ·(try dsimp only); exact ⟨⟨c7, c8⟩, h3, hb⟩
  clear hK K
  try simp only [Act.put, laS]
  refine wpAnyH_take (i := 8) (v := .string ((⟨#[42]⟩ : ByteArray) ++ H ++ ⟨#[44]⟩ ++ J)) rfl (by kernel_rfl) (by kernel_rfl) (by kernel_rfl) (fun _ _ _ h => h) (Or.inl ⟨by kernel_rfl, fun w _ => by go_simp; omega⟩) (by assumption) ?_
  try simp only [Act.put, laS]
  refine wpAnyH_take (i := 9) (v := .string ((⟨#[42]⟩ : ByteArray) ++ H ++ ⟨#[44]⟩ ++ J ++ ⟨#[59]⟩)) rfl (by kernel_rfl) (by kernel_rfl) (by kernel_rfl) (fun _ _ _ h => h) (Or.inl ⟨by kernel_rfl, fun w _ => by go_simp; omega⟩) (by assumption) ?_
  try simp only [Act.put, laS]
  refine wpAnyH_take (i := 10) (v := ?_) rfl (by kernel_rfl) (by kernel_rfl) (by kernel_rfl) (fun _ _ _ h => h) (Or.inl ⟨by kernel_rfl, ?_⟩) (by assumption) ?_
  rotate_left
  ·(intro w hSw; (try dsimp only at hSw); go_simp); (try with_reducible rfl)
  try simp only [Act.put, laS]
  refine wpAnyH_done (by kernel_rfl) ?_ _
  refine NoPanic.normal ?_
  go_wp2
  go_ret
  refine ⟨?_, by with_reducible assumption⟩
  show Ending.returned (Value.string ((⟨#[42]⟩ : ByteArray) ++ H ++ ⟨#[44]⟩ ++ J ++ ⟨#[59]⟩)) = _
  congr 2
  apply Go.WideShapes.bytes_inj
  rw [← HD.out, ← HE.out]
  simp
 ·have hb := Lib.hid bA
  clear bA
  go_enter Tryz.func101, Tryz.ntmps101
  go_wp2
  go_ret
  exact ⟨rfl, hb.out _⟩
 ·have hb := Lib.hid bA
  have h3 := hw.below (bA (.cells #[.int .i64 8, .int .u64 w0, .int .u64 w1, .int .u64 w2, .int .u64 w3, .int .i64 xa, .int .i64 xb, .int .i64 m, .int .i64 M, .int .i64 xn] 60))
  have HI := Lib.hid fun w h => itoa_c xn hx.n.1 hx.n.2 w h
  have hl := itoa_length_le xn hx.n.1 hx.n.2
  have e2 : headText ⟨8, w0, w1, w2, w3, xa, xb, m, M, xn⟩ = 92 :: itoa xn := rfl
  obtain ⟨H, hH⟩ : ∃ H : ByteArray, H = ⟨(itoa xn).toArray⟩ := ⟨_, rfl⟩
  have hs : H.size ≤ 21 := by rw [hH]; simpa [ByteArray.size] using hl
  rw [← hH] at HI
  have HD := Lib.hid (show H.data.toList = itoa xn by rw [hH])
  rw [e2]
  clear bA e2 hH hl
  go_enter Tryz.func101, Tryz.ntmps101
  go_wp2_with (go_at_call 128; refine (HI.out _ h3).mono ?_; rintro e w5 ⟨rfl, hB5⟩)
  go_ret
  refine ⟨?_, (hb.out _).trans (hB5.mono (hb.out _).size)⟩
  show Ending.returned (Value.string ((⟨#[92]⟩ : ByteArray) ++ H)) = _
  congr 2
  apply Go.WideShapes.bytes_inj
  rw [← HD.out]
  simp
end Go.Proofs.YtgllmhheahlpjaaGreatDoor
namespace Go.Proofs.YtgllmhheahlpjaaGreatDoor
open Go.RowKit Go.Lib
def Scan (w : World) (b : Nat) (s : ByteArray) : Prop := w.heap[b]? = some (.cells #[.string s] 118 (0, 0))
theorem Scan.lt {w : World} {b : Nat} {s : ByteArray} (h : Scan w b s) : b < w.heap.size := (Array.getElem?_eq_some_iff.1 h).1
theorem Scan.cell {w : World} {b : Nat} {s : ByteArray} (h : Scan w b s) : w.cell? ⟨b, 0, none⟩ = some (.string s) := by
 rw [cell_of _ _ _ _ h]; rfl
theorem Scan.fz {w : World} {b : Nat} {s : ByteArray} (h : Scan w b s) : w.frozen? ⟨b, 0, none⟩ = false := frozen_of _ _ _ _ h 0
theorem Scan.set {w : World} {b : Nat} {s : ByteArray} (h : Scan w b s) (t : ByteArray) : Scan (w.setCell ⟨b, 0, none⟩ (.string t)) b t := by
 have a := heap_setCell_same _ b 0 _ _ (.string t) h
 exact a
theorem next_nil (b : Nat) (w : World) (h : Scan w b ⟨#[]⟩) :
  Calls Tryz.prog 95 #[.pointer (some ⟨b, 0, none⟩)] w fun e w' => e = .returned (.int .u8 0) ∧ w' = w := by
 have h0 := h.cell
 have hf := h.fz
 go_enter Tryz.func95, Tryz.ntmps95
 go_wp2
 go_ret
 exact ⟨rfl, rfl⟩
theorem next_cons (b : Nat) (c : UInt8) (l : List UInt8) (w : World) (h : Scan w b ⟨(c :: l).toArray⟩) :
  Calls Tryz.prog 95 #[.pointer (some ⟨b, 0, none⟩)] w fun e w' => e = .returned (.int .u8 (c.toNat : Int)) ∧ w' = w.setCell ⟨b, 0, none⟩ (.string ⟨l.toArray⟩) := by
 have h0 := h.cell
 have hf := h.fz
 go_enter Tryz.func95, Tryz.ntmps95
 go_wp2
 have e : (⟨(c :: l).toArray⟩ : ByteArray).extract 1 (l.length + 1) = ⟨l.toArray⟩ := by
  apply ByteArray.ext
  apply Array.ext'
  simp [ByteArray.data_extract]
 rw [e]
 go_ret
 exact ⟨rfl, rfl⟩
end Go.Proofs.YtgllmhheahlpjaaGreatDoor
namespace Go.Proofs.YtgllmhheahlpjaaGreatDoor
open Go.RowKit Go.Lib
def MaxLen (w : World) : Prop := ∃ m, w.cell? ⟨4, 0, none⟩ = some (.int .i64 m)
structure Only (B b : Nat) (w w' : World) : Prop where
 below : Below B w w'
 heap : ∀ k, k ≠ b → k < w.heap.size → w'.heap[k]? = w.heap[k]?
theorem Only.of {B b : Nat} {w w' : World} (h : Below w.heap.size w w') (hb : B ≤ w.heap.size) : Only B b w w' := ⟨h.mono hb, fun k _ hk => h.block k hk⟩
theorem Only.trans {B b : Nat} {w w' w2 : World} (h : Only B b w w') (h' : Only B b w' w2) : Only B b w w2 :=
 ⟨h.below.trans h'.below, fun k hk hl => (h'.heap k hk (Nat.lt_of_lt_of_le hl h.below.size)).trans (h.heap k hk hl)⟩
theorem Only.set {B b : Nat} {w w' : World} (h : Only B b w w') (hb : B ≤ b) (v : Value) : Only B b w (w'.setCell ⟨b, 0, none⟩ v) :=
 ⟨h.below.setCell hb _, fun k hk hl => (Below.heap_setCell _ ⟨b, 0, none⟩ _ k hk).trans (h.heap k hk hl)⟩
theorem upto_c (B b : Nat) (hb : B ≤ b) (s e : ByteArray) (hs : s.size < 4294967281) (w : World) (hm : MaxLen w) (h : Scan w b s) :
  Calls Tryz.prog 98 #[.pointer (some ⟨b, 0, none⟩), .string e] w fun r w' => r = .returned (.string ⟨(Lib.cut s.data.toList e.data.toList).1.toArray⟩) ∧ Scan w' b ⟨(Lib.cut s.data.toList e.data.toList).2.1.toArray⟩ ∧ Only B b w w' := by
 have h0 := h.cell
 have hf := h.fz
 obtain ⟨m, hm⟩ := hm
 have HC := Lib.hid (Tryz.strings_Cut s e m w hs hm)
 go_enter Tryz.func98, Tryz.ntmps98
 go_wp2_with fail
 refine HC.out.mono ?_
 rintro r w1 ⟨rfl, n, rfl⟩
 have h1 : Scan (w.drewN n) b s := h
 have c0 := h1.cell
 have cf := h1.fz
 have hB : Only B b w (w.drewN n) := ⟨⟨rfl, rfl, rfl, Nat.le_refl _, fun k hk => rfl⟩, fun k _ _ => rfl⟩
 clear HC hm
 go_wp2
 go_ret
 exact ⟨rfl, h1.set _, hB.set hb _⟩
end Go.Proofs.YtgllmhheahlpjaaGreatDoor
namespace Go.Proofs.YtgllmhheahlpjaaGreatDoor
open Go.RowKit Go.Lib
structure Vars (w : World) : Prop where
 max : MaxLen w
 syn : ∃ tp p, w.var? Tryz.prog "strconv.ErrSyntax" = some #[.iface tp p]
 rng : ∃ tp p, w.var? Tryz.prog "strconv.ErrRange" = some #[.iface tp p]
theorem World.lt_of_cell {w : World} {a : Addr} {v : Value} (h : w.cell? a = some v) : a.block < w.heap.size := by
 rcases Nat.lt_or_ge a.block w.heap.size with q | q
 ·exact q
 ·unfold World.cell? at h
  rw [Array.getElem?_eq_none q] at h
  simp at h
theorem synNamed : ∃ g, Tryz.prog.globalNamed "strconv.ErrSyntax" = some g := Option.isSome_iff_exists.1 (by kernel_rfl)
theorem rngNamed : ∃ g, Tryz.prog.globalNamed "strconv.ErrRange" = some g := Option.isSome_iff_exists.1 (by kernel_rfl)
theorem MaxLen.below {w w' : World} (h : MaxLen w) (hB : Below w.heap.size w w') : MaxLen w' := by
 obtain ⟨m, h⟩ := h
 exact ⟨m, (hB.cell (World.lt_of_cell h)).trans h⟩
theorem Vars.below {w w' : World} (h : Vars w) (hB : Below w.heap.size w w') : Vars w' := by
 obtain ⟨h1, ⟨t, p, h2⟩, ⟨t', p', h3⟩⟩ := h
 obtain ⟨g, hg⟩ := synNamed
 obtain ⟨g', hg'⟩ := rngNamed
 exact ⟨h1.below hB, ⟨t, p, Joins.var_stays hg h2 hB (Nat.le_refl _)⟩, ⟨t', p', Joins.var_stays hg' h3 hB (Nat.le_refl _)⟩⟩
def atoiNum (l : List UInt8) : Int := match Lib.atoiAll l with
 | .ok v => v
 | .range => Lib.atoiSat l
 | _ => 0
theorem atoi_c (s : ByteArray) (hs : s.size ≤ 281474976710656) (w : World) (h : Vars w) :
  Calls Tryz.prog 122 #[.string s] w fun e w' => (∃ v, e = .returned (.tuple #[.int .i64 (atoiNum s.data.toList), v])) ∧ Below w.heap.size w w' := by
 unfold atoiNum
 cases hq : Lib.atoiAll s.data.toList with
 | ok v =>
  refine (Tryz.strconv_Atoi_ok s (by omega) v hq w).mono ?_
  rintro e w' ⟨rfl, rfl | ⟨t, rfl⟩⟩
  ·exact ⟨⟨_, rfl⟩, Below.refl _ _⟩
  ·exact ⟨⟨_, rfl⟩, Joins.below_bytesWorld _ _ _ _ (Nat.le_refl _)⟩
 | range =>
  obtain ⟨tp, p, hv⟩ := h.rng
  refine (Tryz.strconv_Atoi_range_var s hs hq tp p w hv).mono ?_
  rintro e w' ⟨N, rfl, _, _, hB⟩
  exact ⟨⟨_, rfl⟩, hB⟩
 | _ =>
  obtain ⟨tp, p, hv⟩ := h.syn
  refine (Any.strconv_Atoi_syntax_var Tryz.laysC172 s hs hq tp p w hv).mono ?_
  rintro e w' ⟨N, rfl, _, _, hB⟩
  exact ⟨⟨_, rfl⟩, hB⟩
theorem Scan.below {B : Nat} {w w' : World} {b : Nat} {s : ByteArray} (h : Scan w b s) (hB : Below B w w') (hb : b < B) : Scan w' b s := (hB.block b hb).trans h
theorem number_c (B b : Nat) (hb : B ≤ b) (s e : ByteArray) (hs : s.size < 4294967281) (w0 w : World) (hv : Vars w0) (hB0 : Below w0.heap.size w0 w) (hB : w0.heap.size ≤ B) (h : Scan w b s) :
  Calls Tryz.prog 93 #[.pointer (some ⟨b, 0, none⟩), .string e] w fun r w' => r = .returned (.int .i64 (atoiNum (Lib.cut s.data.toList e.data.toList).1)) ∧ Scan w' b ⟨(Lib.cut s.data.toList e.data.toList).2.1.toArray⟩ ∧ Only B b w w' := by
 have HU := Lib.hid (upto_c B b hb s e hs w (hv.below hB0).max h)
 have hcl : (Lib.cut s.data.toList e.data.toList).1.length ≤ s.size := by
  have e1 : s.data.toList.length = s.size := by simp
  unfold Lib.cut
  split
  ·rw [List.length_take]; omega
  ·show s.data.toList.length ≤ _; omega
 have HA := Lib.hid fun w (h : Vars w) => atoi_c ⟨(Lib.cut s.data.toList e.data.toList).1.toArray⟩ (by show Array.size _ ≤ _; simp; omega) w h
 have hbl := h.lt
 clear hcl
 go_enter Tryz.func93, Tryz.ntmps93
 go_wp2_with fail
 refine HU.out.mono ?_
 rintro r w1 ⟨rfl, h1, hB1⟩
 have hB01 : Below w0.heap.size w0 w1 := hB0.trans (hB1.below.mono hB)
 have hb1 := h1.lt
 go_wp2_with fail
 refine (HA.out w1 (hv.below hB01)).mono ?_
 rintro r w2 ⟨⟨v, rfl⟩, hB2⟩
 have h2 := h1.below hB2 hb1
 have hB3 := hB1.trans (Only.of hB2 (by omega))
 clear HU HA
 go_wp2
 go_ret
 exact ⟨rfl, h2, hB3⟩
end Go.Proofs.YtgllmhheahlpjaaGreatDoor
namespace Go.Proofs.YtgllmhheahlpjaaGreatDoor
open Go.RowKit Go.Lib
def dig3 (n : Nat) : List UInt8 := if n < 10 then [UInt8.ofNat (48 + n)] else if n < 100 then [UInt8.ofNat (48 + n / 10), UInt8.ofNat (48 + n % 10)] else [UInt8.ofNat (48 + n / 100), UInt8.ofNat (48 + n / 10 % 10), UInt8.ofNat (48 + n % 10)]
theorem dec3 (n : Nat) (h : n < 1000) : decDigits n = dig3 n := by
 unfold dig3
 by_cases h1 : n < 10
 ·rw [if_pos h1, decDigits_one h1]
 ·rw [if_neg h1]
  by_cases h2 : n < 100
  ·rw [if_pos h2, decDigits_two h1 h2]
  ·rw [if_neg h2, decDigits, dif_neg h1, decDigits_two (by omega) (by omega), Nat.div_div_eq_div_mul]
   simp
theorem atoi3 : ∀ n, n < 1000 → atoiNum (dig3 n) = (n : Int) ∧ (44 : UInt8) ∉ dig3 n ∧ (59 : UInt8) ∉ dig3 n ∧ dig3 n ≠ [] := by decide +kernel
theorem atoi_itoa (n : Int) (h0 : -1 ≤ n) (h1 : n < 1000) : atoiNum (itoa n) = n ∧ (44 : UInt8) ∉ itoa n ∧ (59 : UInt8) ∉ itoa n := by
 by_cases hn : n = -1
 ·subst hn
  have e : itoa (-1) = [45, 49] := by
   unfold itoa
   rw [if_pos (by omega)]
   show 45 :: decDigits 1 = _
   rw [decDigits_one (by omega)]
   rfl
  rw [e]
  decide +kernel
 ·obtain ⟨k, rfl⟩ : ∃ k : Nat, n = k := ⟨n.toNat, by omega⟩
  have e : itoa (k : Int) = decDigits k := by unfold itoa; rw [if_neg (by omega)]; simp
  rw [e, dec3 k (by omega)]
  obtain ⟨a, b, c, _⟩ := atoi3 k (by omega)
  exact ⟨a, b, c⟩
end Go.Proofs.YtgllmhheahlpjaaGreatDoor
namespace Go.Proofs.YtgllmhheahlpjaaGreatDoor
open Go.RowKit Go.Lib
def digs : List UInt8 := [48, 49, 50, 51, 52, 53, 54, 55, 56, 57, 97, 98, 99, 100, 101, 102]
def unhex : List UInt8 → List UInt8
 | a :: b :: t => if 0 ≤ indexByte digs a ∧ 0 ≤ indexByte digs b then UInt8.ofNat ((indexByte digs a).toNat * 16 + (indexByte digs b).toNat) :: unhex t else []
 | _ => []
theorem digs_dig : ∀ q, q < 16 → indexByte digs (dig q) = (q : Int) := by decide +kernel
theorem unhex_hexl (l : List UInt8) : unhex (hexl l) = l := by
 induction l with
 | nil => rfl
 | cons a t ih =>
  have ha : a.toNat < 256 := a.toNat_lt
  show unhex (dig (a.toNat / 16) :: dig (a.toNat % 16) :: hexl t) = _
  rw [unhex, digs_dig _ (by omega), digs_dig _ (by omega), if_pos ⟨by omega, by omega⟩, ih]
  congr 1
  have e : ((a.toNat / 16 : Nat) : Int).toNat * 16 + ((a.toNat % 16 : Nat) : Int).toNat = a.toNat := by omega
  rw [e]
  simp
theorem unhex_len : ∀ l : List UInt8, 2 * (unhex l).length ≤ l.length
 | [] => by simp [unhex]
 | [a] => by simp [unhex]
 | a :: b :: t => by
  have := unhex_len t
  unfold unhex
  split <;> simp <;> omega
theorem cut_at (e : UInt8) (xs r : List UInt8) (h : e ∉ xs) : Lib.cut (xs ++ e :: r) [e] = (xs, r, true) := by
 have hi : Lib.index (xs ++ e :: r) [e] = (xs.length : Int) := by
  rw [index_one]
  induction xs with
  | nil => simp [indexByte]
  | cons a t ih =>
   have hne : a ≠ e := fun q => h (by simp [q])
   have ht := ih fun q => h (List.mem_cons_of_mem _ q)
   show (if (a == e) = true then (0 : Int) else if (indexByte (t ++ e :: r) e == -1) = true then -1 else indexByte (t ++ e :: r) e + 1) = _
   rw [ht, if_neg (by simpa using hne), if_neg (by simp)]
   simp
 unfold Lib.cut
 rw [hi, if_pos (by omega)]
 simp
theorem cut_len (s e : List UInt8) : (Lib.cut s e).1.length ≤ s.length ∧ (Lib.cut s e).2.1.length ≤ s.length := by
 unfold Lib.cut
 split
 ·simp only [List.length_take, List.length_drop]; omega
 ·exact ⟨Nat.le_refl _, by simp⟩
end Go.Proofs.YtgllmhheahlpjaaGreatDoor
namespace Go.Proofs.YtgllmhheahlpjaaGreatDoor
open Go.Lib
def T.groups : T → Nat
 | .leaf _ => 0
 | .two _ a b => a.groups + b.groups
 | .times _ _ t => t.groups
 | .group _ t => t.groups + 1
theorem num_fst : ∀ (t : T) (s u : Nat × (Nat → Bool)), num t s = some u → u.1 = s.1 + t.groups
 | .leaf x, s, u, h => by
  simp only [num] at h
  split at h
  ·split at h
   ·cases h; rfl
   ·cases h
  ·cases h; rfl
 | .two k a b, s, u, h => by
  simp only [num, Option.bind_eq_some_iff] at h
  obtain ⟨v, h1, h2⟩ := h
  have e1 := num_fst a s v h1
  have e2 := num_fst b v u h2
  simp only [T.groups]; omega
 | .times m M t, s, u, h => num_fst t s u h
 | .group n t, s, u, h => by
  simp only [num] at h
  split at h
  ·simp only [Option.map_eq_some_iff] at h
   obtain ⟨v, h1, rfl⟩ := h
   have := num_fst t _ v h1
   simp only [T.groups] at *; omega
  ·cases h
end Go.Proofs.YtgllmhheahlpjaaGreatDoor
namespace Go.Proofs.YtgllmhheahlpjaaGreatDoor
open Go.Lib
def T.refs : T → Nat
 | .leaf x => if x.kind = 8 then 1 else 0
 | .two _ a b => a.refs + b.refs
 | .times _ _ t => t.refs
 | .group _ t => t.refs
theorem gcnt_step {xs : List Nd} {k : Nat} {x : Nd} (h : xs[k]? = some x) : gcnt xs (k + 1) = gcnt xs k + (if x.kind = 7 then 1 else 0) := by simp only [gcnt, h]
theorem tree_nodes {xs : List Nd} : ∀ (t : T) (o : Nat), t.Ok → T.At (fun i => xs[i]?) t o → gcnt xs (o + t.size) = gcnt xs o + t.groups ∧ (anyRef xs (o + t.size) ↔ anyRef xs o ∨ 0 < t.refs)
 | .leaf x, o, h, a => by
  have hx : xs[o]? = some x := a
  have hk := h.2
  refine ⟨?_, ?_⟩
  ·show gcnt xs (o + 1) = _
   rw [gcnt_step hx, if_neg (by omega)]; rfl
  ·show anyRef xs (o + 1) ↔ _
   constructor
   ·rintro ⟨j, y, hj, hy, h8⟩
    by_cases e : j = o
    ·subst e; rw [hx] at hy; cases hy; right; simp [T.refs, h8]
    ·exact .inl ⟨j, y, by omega, hy, h8⟩
   ·rintro (⟨j, y, hj, hy, h8⟩ | h)
    ·exact ⟨j, y, by omega, hy, h8⟩
    ·refine ⟨o, x, by omega, hx, ?_⟩
     simp only [T.refs] at h
     split at h
     ·assumption
     ·omega
 | .two k p q, o, h, a => by
  obtain ⟨a1, a2⟩ := tree_nodes p o h.2.1 a.1
  obtain ⟨b1, b2⟩ := tree_nodes q (o + p.size) h.2.2 a.2.1
  have hx := a.2.2
  have hk : (T.root (.two k p q) o).kind = k := rfl
  have e : o + (T.two k p q).size = o + p.size + q.size + 1 := by simp only [T.size]; omega
  rw [e]
  refine ⟨?_, ?_⟩
  ·rw [gcnt_step hx, b1, a1, hk, if_neg (by rcases h.1 with rfl | rfl <;> decide)]; simp only [T.groups]; omega
  ·constructor
   ·rintro ⟨j, y, hj, hy, h8⟩
    by_cases ej : j = o + p.size + q.size
    ·subst ej
     have : (some (T.root (.two k p q) o) : Option Nd) = some y := by rw [← hx]; exact hy
     cases this
     exfalso
     rw [hk] at h8
     rcases h.1 with rfl | rfl <;> cases h8
    ·rcases b2.1 ⟨j, y, by omega, hy, h8⟩ with h' | h'
     ·rcases a2.1 h' with h'' | h''
      ·exact .inl h''
      ·right; simp only [T.refs]; omega
     ·right; simp only [T.refs]; omega
   ·intro h'
    have up : ∀ m, m ≤ o + p.size + q.size → anyRef xs m → anyRef xs (o + p.size + q.size + 1) := fun m hm ⟨j, y, hj, hy, h8⟩ => ⟨j, y, by omega, hy, h8⟩
    rcases h' with h' | h'
    ·exact up _ (by omega) h'
    ·simp only [T.refs] at h'
     by_cases hp : 0 < p.refs
     ·exact up _ (by omega) (a2.2 (.inr hp))
     ·exact up _ (by omega) (b2.2 (.inr (by omega)))
 | .times m M p, o, h, a => by
  obtain ⟨a1, a2⟩ := tree_nodes p o h.2 a.1
  have hx := a.2
  have hk : (T.root (.times m M p) o).kind = 6 := rfl
  have e : o + (T.times m M p).size = o + p.size + 1 := by simp only [T.size]; omega
  rw [e]
  refine ⟨?_, ?_⟩
  ·rw [gcnt_step hx, a1, hk, if_neg (by decide)]; simp only [T.groups]; omega
  ·constructor
   ·rintro ⟨j, y, hj, hy, h8⟩
    by_cases ej : j = o + p.size
    ·subst ej
     have : (some (T.root (.times m M p) o) : Option Nd) = some y := by rw [← hx]; exact hy
     cases this
     cases h8
    ·rcases a2.1 ⟨j, y, by omega, hy, h8⟩ with h' | h'
     ·exact .inl h'
     ·right; simpa only [T.refs] using h'
   ·intro h'
    obtain ⟨j, y, hj, hy, h8⟩ := a2.2 (h'.imp id (by simp only [T.refs]; exact id))
    exact ⟨j, y, by omega, hy, h8⟩
 | .group n p, o, h, a => by
  obtain ⟨a1, a2⟩ := tree_nodes p o h.2 a.1
  have hx := a.2
  have hk : (T.root (.group n p) o).kind = 7 := rfl
  have e : o + (T.group n p).size = o + p.size + 1 := by simp only [T.size]; omega
  rw [e]
  refine ⟨?_, ?_⟩
  ·rw [gcnt_step hx, a1, hk, if_pos rfl]; simp only [T.groups]; omega
  ·constructor
   ·rintro ⟨j, y, hj, hy, h8⟩
    by_cases ej : j = o + p.size
    ·subst ej
     have : (some (T.root (.group n p) o) : Option Nd) = some y := by rw [← hx]; exact hy
     cases this
     cases h8
    ·rcases a2.1 ⟨j, y, by omega, hy, h8⟩ with h' | h'
     ·exact .inl h'
     ·right; simpa only [T.refs] using h'
   ·intro h'
    obtain ⟨j, y, hj, hy, h8⟩ := a2.2 (h'.imp id (by simp only [T.refs]; exact id))
    exact ⟨j, y, by omega, hy, h8⟩
end Go.Proofs.YtgllmhheahlpjaaGreatDoor
