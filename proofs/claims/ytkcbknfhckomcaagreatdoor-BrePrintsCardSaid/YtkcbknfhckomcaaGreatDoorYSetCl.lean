/- The reference's Class. -/
import Derived.Test.YtkcbknfhckomcaaGreatDoorYSetZ
import Derived.Test.YtkcbknfhckomcaaGreatDoorYSetH
set_option linter.unusedVariables false
set_option linter.unusedSimpArgs false
set_option maxRecDepth 100000
set_option maxHeartbeats 40000000
namespace Go.Proofs.YtkcbknfhckomcaaGreatDoor
open Go.RowKit
def RRangeTo (a b : Int) (f : Nat → Bool) : Prop := ∀ w, Calls Tryz.prog 74 #[.int .u8 a, .int .u8 b] w fun e w' => e = .returned (.agg (barr f)) ∧ Below w.heap.size w w'
def ROfTo (x : ByteArray) (f : Nat → Bool) : Prop := ∀ w, Calls Tryz.prog 77 #[.string x] w fun e w' => e = .returned (.agg (barr f)) ∧ Below w.heap.size w w'
def ROrTo (f g h : Nat → Bool) : Prop := ∀ w, Calls Tryz.prog 102 #[.agg (barr f), .agg (barr g)] w fun e w' => e = .returned (.agg (barr h)) ∧ Below w.heap.size w w'
theorem run_load_row {o : Oper} {ev : Operand → Value} {x : Operand} {W : World} {b : Nat} {f : Nat → Bool} (h : Row W b f) (ho : o.op = .load 66 x) (hx : ev x = .pointer (some ⟨b, 0, none⟩)) :
  (execOp ev o).run Tryz.prog W = .ok (.value (.agg (barr f))) W := by
 unfold execOp
 simp only [ho, hx, h.loadAt, Sem.run_bind, Sem.run_pure, Result.andThen_ok]
structure Parts (u l d ul al : Nat → Bool) : Prop where
 hu : RRangeTo 65 90 u
 hl : RRangeTo 97 122 l
 hd : RRangeTo 48 57 d
 hul : ROrTo u l ul
 hal : ROrTo ul d al
theorem Row.drew {W : World} {b : Nat} {f : Nat → Bool} (h : Row W b f) : Row W.drew b f := ⟨h.heap⟩
theorem rclass_go (name : ByteArray) (u l d ul al : Nat → Bool) (hP : Parts u l d ul al) (x1 x2 x3 x4 b1 s1 s2 s3 c1 c2 c3 g1 p1 : Nat → Bool) (hx1 : RRangeTo 65 70 x1) (hx2 : RRangeTo 97 102 x2) (hx3 : ROrTo x1 x2 x3) (hx4 : ROrTo d x3 x4) (hb1 : ROfTo ⟨#[9, 32]⟩ b1) (hs1 : RRangeTo 9 13 s1) (hs2 : ROfTo ⟨#[32]⟩ s2) (hs3 : ROrTo s1 s2 s3) (hc1 : RRangeTo 0 31 c1) (hc2 : RRangeTo 127 127 c2) (hc3 : ROrTo c1 c2 c3) (hg1 : RRangeTo 33 126 g1) (hp1 : RRangeTo 32 126 p1) (R : Value → Prop) (r0 : (name.toList == ([117, 112, 112, 101, 114] : List UInt8)) = true → R (.tuple #[.agg (barr u), .bool true])) (r1 : (name.toList == ([108, 111, 119, 101, 114] : List UInt8)) = true → R (.tuple #[.agg (barr l), .bool true])) (r2 : (name.toList == ([97, 108, 112, 104, 97] : List UInt8)) = true → R (.tuple #[.agg (barr ul), .bool true])) (r3 : (name.toList == ([100, 105, 103, 105, 116] : List UInt8)) = true → R (.tuple #[.agg (barr d), .bool true])) (r4 : (name.toList == ([97, 108, 110, 117, 109] : List UInt8)) = true → R (.tuple #[.agg (barr al), .bool true])) (r5 : (name.toList == ([120, 100, 105, 103, 105, 116] : List UInt8)) = true → R (.tuple #[.agg (barr x4), .bool true])) (r6 : (name.toList == ([98, 108, 97, 110, 107] : List UInt8)) = true → R (.tuple #[.agg (barr b1), .bool true])) (r7 : (name.toList == ([115, 112, 97, 99, 101] : List UInt8)) = true → R (.tuple #[.agg (barr s3), .bool true])) (r8 : (name.toList == ([99, 110, 116, 114, 108] : List UInt8)) = true → R (.tuple #[.agg (barr c3), .bool true])) (r9 : (name.toList == ([103, 114, 97, 112, 104] : List UInt8)) = true → R (.tuple #[.agg (barr g1), .bool true])) (r10 : (name.toList == ([112, 114, 105, 110, 116] : List UInt8)) = true → R (.tuple #[.agg (barr p1), .bool true])) (r11 : (name.toList == ([112, 117, 110, 99, 116] : List UInt8)) = true → R (.tuple #[.agg (barr (fun i => g1 i && !al i)), .bool true])) (r12 : (name.toList == ([117, 112, 112, 101, 114] : List UInt8)) = false → (name.toList == ([108, 111, 119, 101, 114] : List UInt8)) = false → (name.toList == ([97, 108, 112, 104, 97] : List UInt8)) = false → (name.toList == ([100, 105, 103, 105, 116] : List UInt8)) = false → (name.toList == ([97, 108, 110, 117, 109] : List UInt8)) = false → (name.toList == ([120, 100, 105, 103, 105, 116] : List UInt8)) = false → (name.toList == ([98, 108, 97, 110, 107] : List UInt8)) = false → (name.toList == ([115, 112, 97, 99, 101] : List UInt8)) = false → (name.toList == ([99, 110, 116, 114, 108] : List UInt8)) = false → (name.toList == ([103, 114, 97, 112, 104] : List UInt8)) = false → (name.toList == ([112, 114, 105, 110, 116] : List UInt8)) = false → (name.toList == ([112, 117, 110, 99, 116] : List UInt8)) = false → R (.tuple #[.agg (barr fun _ => false), .bool false])) (w : World) :
  Calls Tryz.prog 101 #[.string name] w fun e w' => (∃ v, R v ∧ e = .returned v) ∧ Below w.heap.size w w' := by
 have HU := Lib.hid hP.hu; have HL := Lib.hid hP.hl; have HD := Lib.hid hP.hd; have HUL := Lib.hid hP.hul; have HAL := Lib.hid hP.hal
 unfold RRangeTo at HU HL HD; unfold ROrTo at HUL HAL
 clear hP
 obtain ⟨hz, hsz⟩ := zero_of_info (P := Tryz.prog) info27
 go_enter Tryz.func101, Tryz.ntmps101
 go_wp2_with fail
 refine (HU.out _).mono ?_
 rintro e w1 ⟨rfl, hB⟩
 have b : Below w.heap.size w w1 := ((Below.refl _ w).alloc (Nat.le_refl _) _).trans (hB.mono (by simp))
 have R0 := (Row.new w (fun _ => false)).below hB (by simp)
 clear hB
 have Z := Row.new w1 (fun _ => false)
 have Zs := Z.storeCells
 go_wp2_with fail
 have n0 := R0.lt
 have R4 := Z.put u
 have R0 := (R0.alloc (.cells (barr fun _ => false) 66)).setRow_other (b' := w1.heap.size) (by omega) (barr u)
 have b := Below.setRow (b.alloc b.size (.cells (barr fun _ => false) 66)) b.size (barr u)
 clear Z Zs
 refine (HL.out _).mono ?_
 rintro e w2 ⟨rfl, hB⟩
 have R0 := R0.below hB R0.lt; have R4 := R4.below hB R4.lt; have b := b.trans (hB.mono b.size)
 clear hB
 have Z := Row.new w2 (fun _ => false)
 have Zs := Z.storeCells
 go_wp2_with fail
 have n0 := R0.lt; have n1 := R4.lt
 have R5 := Z.put l
 have R0 := (R0.alloc (.cells (barr fun _ => false) 66)).setRow_other (b' := w2.heap.size) (by omega) (barr l)
 have R4 := (R4.alloc (.cells (barr fun _ => false) 66)).setRow_other (b' := w2.heap.size) (by omega) (barr l)
 have b := Below.setRow (b.alloc b.size (.cells (barr fun _ => false) 66)) b.size (barr l)
 clear Z Zs
 refine (HD.out _).mono ?_
 rintro e w3 ⟨rfl, hB⟩
 have R0 := R0.below hB R0.lt; have R4 := R4.below hB R4.lt; have R5 := R5.below hB R5.lt; have b := b.trans (hB.mono b.size)
 clear hB
 have Z := Row.new w3 (fun _ => false)
 have Zs := Z.storeCells
 go_wp2_with fail
 have n0 := R0.lt; have n1 := R4.lt; have n2 := R5.lt
 have R6 := Z.put d
 have R0 := (R0.alloc (.cells (barr fun _ => false) 66)).setRow_other (b' := w3.heap.size) (by omega) (barr d)
 have R4 := (R4.alloc (.cells (barr fun _ => false) 66)).setRow_other (b' := w3.heap.size) (by omega) (barr d)
 have R5 := (R5.alloc (.cells (barr fun _ => false) 66)).setRow_other (b' := w3.heap.size) (by omega) (barr d)
 have b := Below.setRow (b.alloc b.size (.cells (barr fun _ => false) 66)) b.size (barr d)
 clear Z Zs n0 n1 n2
 rename_i Q K hQ
 have hrest : ∀ (p : Nat) (W : World), ((Row W w.heap.size (fun _ => false) ∧ Row W w1.heap.size u ∧ Row W w2.heap.size l ∧ Row W w3.heap.size d) ∧ Below w.heap.size w W) → Row W p al → K { tmps := #[.string name, undef, .pointer (some ⟨w.heap.size, 0, none⟩), .bool false, .pointer (some ⟨w1.heap.size, 0, none⟩), .pointer (some ⟨w2.heap.size, 0, none⟩), .pointer (some ⟨w3.heap.size, 0, none⟩), .pointer (some ⟨p, 0, none⟩), undef, undef, .agg (barr u), .agg (barr l), .agg (barr d), .agg (barr u), .agg (barr l), .agg (barr ul), .agg (barr d), .agg (barr al), undef, undef, undef, undef, undef, undef, undef, undef, undef, undef, undef, undef, undef, undef, undef, undef, undef, undef, undef, undef, undef, undef, undef, undef, undef, undef, undef, undef, undef, undef, undef, undef, undef, undef, undef, undef, undef, undef, undef, undef, undef, undef, undef, undef, undef, undef, undef, undef, undef, undef, undef, undef, undef, undef, undef, undef, undef, undef, undef, undef, undef, undef, undef, undef, undef], defers := [] } W := by
  intro p W hS R7
  obtain ⟨⟨R0, R4, R5, R6⟩, b⟩ := hS
  refine hQ _ _ ?_
  have Hp1 := Lib.hid hp1
  have Hg1 := Lib.hid hg1
  have Hc3 := Lib.hid hc3
  have Hc2 := Lib.hid hc2
  have Hc1 := Lib.hid hc1
  have Hs3 := Lib.hid hs3
  have Hs2 := Lib.hid hs2
  have Hs1 := Lib.hid hs1
  have Hb1 := Lib.hid hb1
  have Hx4 := Lib.hid hx4
  have Hx3 := Lib.hid hx3
  have Hx2 := Lib.hid hx2
  have Hx1 := Lib.hid hx1
  unfold RRangeTo at Hx1
  unfold RRangeTo at Hx2
  unfold ROrTo at Hx3
  unfold ROrTo at Hx4
  unfold ROfTo at Hb1
  unfold RRangeTo at Hs1
  unfold ROfTo at Hs2
  unfold ROrTo at Hs3
  unfold RRangeTo at Hc1
  unfold RRangeTo at Hc2
  unfold ROrTo at Hc3
  unfold RRangeTo at Hg1
  unfold RRangeTo at Hp1
  have lw := b.size
  have nz := (Row.new W (fun _ => false)).storeCells (fun _ => false)
  have R8 := (Row.new W (fun _ => false)).put (fun _ => false)
  have l0 := R0.lt; have l4 := R4.lt; have l5 := R5.lt; have l6 := R6.lt; have l7 := R7.lt
  have R0 := (R0.alloc (.cells (barr fun _ => false) 66)).setRow_other (b' := W.heap.size) (by omega) (barr fun _ => false)
  have R4 := (R4.alloc (.cells (barr fun _ => false) 66)).setRow_other (b' := W.heap.size) (by omega) (barr fun _ => false)
  have R5 := (R5.alloc (.cells (barr fun _ => false) 66)).setRow_other (b' := W.heap.size) (by omega) (barr fun _ => false)
  have R6 := (R6.alloc (.cells (barr fun _ => false) 66)).setRow_other (b' := W.heap.size) (by omega) (barr fun _ => false)
  have R7 := (R7.alloc (.cells (barr fun _ => false) 66)).setRow_other (b' := W.heap.size) (by omega) (barr fun _ => false)
  have b := Below.setRow (b.alloc lw (.cells (barr fun _ => false) 66)) lw (barr fun _ => false)
  by_cases hn0 : (name.toList == ([117, 112, 112, 101, 114] : List UInt8)) = true
  ·go_wp2_with fail
   refine wp_load_row R4 rfl rfl ?_
   have S8 := R8.storeCells
   go_wp2_with fail
   have R8 := R8.put u
   have R0 := R0.setRow_other (b' := W.heap.size) (by have := R0.lt; omega) (barr u)
   have b := Below.setRow b lw (barr u)
   refine wp_load_row R8 rfl rfl ?_
   have S0 := R0.storeCells
   go_wp2
   have q := (R0.put u).load
   refine bodyPost_ret (v := .tuple #[.agg (barr u), .bool true]) (by simp [results, Tryz.results101, asAddr, Result.andThen, q]) rfl ⟨⟨_, (r0 hn0), rfl⟩, Below.setRow b (Nat.le_refl _) _⟩
  replace hn0 : (name.toList == ([117, 112, 112, 101, 114] : List UInt8)) = false := by simpa using hn0
  by_cases hn1 : (name.toList == ([108, 111, 119, 101, 114] : List UInt8)) = true
  ·go_wp2_with fail
   refine wp_load_row R5 rfl rfl ?_
   have S8 := R8.storeCells
   go_wp2_with fail
   have R8 := R8.put l
   have R0 := R0.setRow_other (b' := W.heap.size) (by have := R0.lt; omega) (barr l)
   have b := Below.setRow b lw (barr l)
   refine wp_load_row R8 rfl rfl ?_
   have S0 := R0.storeCells
   go_wp2
   have q := (R0.put l).load
   refine bodyPost_ret (v := .tuple #[.agg (barr l), .bool true]) (by simp [results, Tryz.results101, asAddr, Result.andThen, q]) rfl ⟨⟨_, (r1 hn1), rfl⟩, Below.setRow b (Nat.le_refl _) _⟩
  replace hn1 : (name.toList == ([108, 111, 119, 101, 114] : List UInt8)) = false := by simpa using hn1
  by_cases hn2 : (name.toList == ([97, 108, 112, 104, 97] : List UInt8)) = true
  ·go_wp2_with fail
   refine wp_load_row R4 rfl rfl ?_
   go_wp2_with fail
   refine wp_load_row R5 rfl rfl ?_
   go_wp2_with fail
   refine (HUL.out _).mono ?_
   rintro e wN ⟨rfl, hB⟩
   have R0 := R0.below hB R0.lt; have R4 := R4.below hB R4.lt; have R5 := R5.below hB R5.lt; have R6 := R6.below hB R6.lt; have R7 := R7.below hB R7.lt; have R8 := R8.below hB R8.lt; have b := b.trans (hB.mono b.size)
   clear hB
   have S8 := R8.storeCells
   go_wp2_with fail
   have R8 := R8.put ul
   have R0 := R0.setRow_other (b' := W.heap.size) (by have := R0.lt; omega) (barr ul)
   have b := Below.setRow b lw (barr ul)
   refine wp_load_row R8 rfl rfl ?_
   have S0 := R0.storeCells
   go_wp2
   have q := (R0.put ul).load
   refine bodyPost_ret (v := .tuple #[.agg (barr ul), .bool true]) (by simp [results, Tryz.results101, asAddr, Result.andThen, q]) rfl ⟨⟨_, (r2 hn2), rfl⟩, Below.setRow b (Nat.le_refl _) _⟩
  replace hn2 : (name.toList == ([97, 108, 112, 104, 97] : List UInt8)) = false := by simpa using hn2
  by_cases hn3 : (name.toList == ([100, 105, 103, 105, 116] : List UInt8)) = true
  ·go_wp2_with fail
   refine wp_load_row R6 rfl rfl ?_
   have S8 := R8.storeCells
   go_wp2_with fail
   have R8 := R8.put d
   have R0 := R0.setRow_other (b' := W.heap.size) (by have := R0.lt; omega) (barr d)
   have b := Below.setRow b lw (barr d)
   refine wp_load_row R8 rfl rfl ?_
   have S0 := R0.storeCells
   go_wp2
   have q := (R0.put d).load
   refine bodyPost_ret (v := .tuple #[.agg (barr d), .bool true]) (by simp [results, Tryz.results101, asAddr, Result.andThen, q]) rfl ⟨⟨_, (r3 hn3), rfl⟩, Below.setRow b (Nat.le_refl _) _⟩
  replace hn3 : (name.toList == ([100, 105, 103, 105, 116] : List UInt8)) = false := by simpa using hn3
  by_cases hn4 : (name.toList == ([97, 108, 110, 117, 109] : List UInt8)) = true
  ·go_wp2_with fail
   refine wp_load_row R7 rfl rfl ?_
   have S8 := R8.storeCells
   go_wp2_with fail
   have R8 := R8.put al
   have R0 := R0.setRow_other (b' := W.heap.size) (by have := R0.lt; omega) (barr al)
   have b := Below.setRow b lw (barr al)
   refine wp_load_row R8 rfl rfl ?_
   have S0 := R0.storeCells
   go_wp2
   have q := (R0.put al).load
   refine bodyPost_ret (v := .tuple #[.agg (barr al), .bool true]) (by simp [results, Tryz.results101, asAddr, Result.andThen, q]) rfl ⟨⟨_, (r4 hn4), rfl⟩, Below.setRow b (Nat.le_refl _) _⟩
  replace hn4 : (name.toList == ([97, 108, 110, 117, 109] : List UInt8)) = false := by simpa using hn4
  by_cases hn5 : (name.toList == ([120, 100, 105, 103, 105, 116] : List UInt8)) = true
  ·go_wp2_with fail
   obtain ⟨V, hV⟩ : ∃ V, V = ((W.alloc (.cells (barr fun _ => false) 66)).setRow W.heap.size (barr fun _ => false)) := ⟨_, rfl⟩
   rw [← hV] at R0 R4 R5 R6 R7 R8 b ⊢
   clear hV
   refine wp_region_noPanic ?_
   refine wp_region_held_drew (S := fun w' => ((Row w' w.heap.size (fun _ => false) ∧ Row w' w1.heap.size u ∧ Row w' w2.heap.size l ∧ Row w' w3.heap.size d ∧ Row w' p al) ∧ Below w.heap.size w w')) (by kernel_rfl) ⟨⟨R0.drew, R4.drew, R5.drew, R6.drew, R7.drew⟩, b.drew⟩ (fun hHeld => ?_)
   have R8 := R8.drew
   refine wpAnyH_take (i := 0) (v := .agg (barr d)) rfl (by kernel_rfl) (by kernel_rfl) (by kernel_rfl) (fun _ _ _ h => h) (Or.inl ⟨by kernel_rfl, fun w hw => run_load_row hw.1.2.2.2.1 rfl rfl⟩) (by assumption) ?_
   try simp only [Act.put, laS]
   refine wpAnyH_ready (rs := [1]) (by kernel_rfl) (by simp) ?_
   refine AllReadyH.cons rfl (fun K hK => ?_) ?_
   rotate_left
   ·exact AllReadyH.nil
   go_simp
   obtain ⟨⟨R0, R4, R5, R6, R7⟩, b⟩ := hHeld
   refine (Hx1.out _).mono ?_
   rintro e wN ⟨rfl, hB⟩
   have R0 := R0.below hB R0.lt; have R4 := R4.below hB R4.lt; have R5 := R5.below hB R5.lt; have R6 := R6.below hB R6.lt; have R7 := R7.below hB R7.lt; have R8 := R8.below hB R8.lt; have b := b.trans (hB.mono b.size)
   clear hB
   refine hK.out _ _ ?_ (fun hHeld => ?_)
   ·(try dsimp only); exact ⟨⟨R0, R4, R5, R6, R7⟩, b⟩
   clear hK K
   try simp only [Act.put, laS]
   refine wpAnyH_ready (rs := [2]) (by kernel_rfl) (by simp) ?_
   refine AllReadyH.cons rfl (fun K hK => ?_) ?_
   rotate_left
   ·exact AllReadyH.nil
   go_simp
   obtain ⟨⟨R0, R4, R5, R6, R7⟩, b⟩ := hHeld
   refine (Hx2.out _).mono ?_
   rintro e wN ⟨rfl, hB⟩
   have R0 := R0.below hB R0.lt; have R4 := R4.below hB R4.lt; have R5 := R5.below hB R5.lt; have R6 := R6.below hB R6.lt; have R7 := R7.below hB R7.lt; have R8 := R8.below hB R8.lt; have b := b.trans (hB.mono b.size)
   clear hB
   refine hK.out _ _ ?_ (fun hHeld => ?_)
   ·(try dsimp only); exact ⟨⟨R0, R4, R5, R6, R7⟩, b⟩
   clear hK K
   try simp only [Act.put, laS]
   refine wpAnyH_ready (rs := [3]) (by kernel_rfl) (by simp) ?_
   refine AllReadyH.cons rfl (fun K hK => ?_) ?_
   rotate_left
   ·exact AllReadyH.nil
   go_simp
   obtain ⟨⟨R0, R4, R5, R6, R7⟩, b⟩ := hHeld
   refine (Hx3.out _).mono ?_
   rintro e wN ⟨rfl, hB⟩
   have R0 := R0.below hB R0.lt; have R4 := R4.below hB R4.lt; have R5 := R5.below hB R5.lt; have R6 := R6.below hB R6.lt; have R7 := R7.below hB R7.lt; have R8 := R8.below hB R8.lt; have b := b.trans (hB.mono b.size)
   clear hB
   refine hK.out _ _ ?_ (fun hHeld => ?_)
   ·(try dsimp only); exact ⟨⟨R0, R4, R5, R6, R7⟩, b⟩
   clear hK K
   try simp only [Act.put, laS]
   refine wpAnyH_ready (rs := [4]) (by kernel_rfl) (by simp) ?_
   refine AllReadyH.cons rfl (fun K hK => ?_) ?_
   rotate_left
   ·exact AllReadyH.nil
   go_simp
   obtain ⟨⟨R0, R4, R5, R6, R7⟩, b⟩ := hHeld
   refine (Hx4.out _).mono ?_
   rintro e wN ⟨rfl, hB⟩
   have R0 := R0.below hB R0.lt; have R4 := R4.below hB R4.lt; have R5 := R5.below hB R5.lt; have R6 := R6.below hB R6.lt; have R7 := R7.below hB R7.lt; have R8 := R8.below hB R8.lt; have b := b.trans (hB.mono b.size)
   clear hB
   refine hK.out _ _ ?_ (fun hHeld => ?_)
   ·(try dsimp only); exact ⟨⟨R0, R4, R5, R6, R7⟩, b⟩
   clear hK K
   try simp only [Act.put, laS]
   refine wpAnyH_ready (rs := [5]) (by kernel_rfl) (by simp) ?_
   refine AllReadyH.cons rfl (fun K hK => ?_) AllReadyH.nil
   obtain ⟨⟨R0, R4, R5, R6, R7⟩, b⟩ := hHeld
   have S8 := R8.storeCells
   have bs := barr_size x4
   go_simp
   refine hK.out _ _ ?_ (fun hHeld => ?_)
   ·exact ⟨⟨R0.setRow_other (by omega) _, R4.setRow_other (by omega) _, R5.setRow_other (by omega) _, R6.setRow_other (by omega) _, R7.setRow_other (by omega) _⟩, Below.setRow b lw _⟩
   clear hK K
   try simp only [Act.put, laS]
   refine wpAnyH_done (by kernel_rfl) ?_ _
   refine NoPanic.normal ?_
   obtain ⟨⟨R0, R4, R5, R6, R7⟩, b⟩ := hHeld
   have R8 := R8.put x4
   go_wp2_with fail
   refine wp_load_row R8 rfl rfl ?_
   have S0 := R0.storeCells
   go_wp2
   have q := (R0.put x4).load
   refine bodyPost_ret (v := .tuple #[.agg (barr x4), .bool true]) (by simp [results, Tryz.results101, asAddr, Result.andThen, q]) rfl ⟨⟨_, (r5 hn5), rfl⟩, Below.setRow b (Nat.le_refl _) _⟩
  replace hn5 : (name.toList == ([120, 100, 105, 103, 105, 116] : List UInt8)) = false := by simpa using hn5
  by_cases hn6 : (name.toList == ([98, 108, 97, 110, 107] : List UInt8)) = true
  ·go_wp2_with fail
   refine (Hb1.out _).mono ?_
   rintro e wN ⟨rfl, hB⟩
   have R0 := R0.below hB R0.lt; have R4 := R4.below hB R4.lt; have R5 := R5.below hB R5.lt; have R6 := R6.below hB R6.lt; have R7 := R7.below hB R7.lt; have R8 := R8.below hB R8.lt; have b := b.trans (hB.mono b.size)
   clear hB
   have S8 := R8.storeCells
   go_wp2_with fail
   have R8 := R8.put b1
   have R0 := R0.setRow_other (b' := W.heap.size) (by have := R0.lt; omega) (barr b1)
   have b := Below.setRow b lw (barr b1)
   refine wp_load_row R8 rfl rfl ?_
   have S0 := R0.storeCells
   go_wp2
   have q := (R0.put b1).load
   refine bodyPost_ret (v := .tuple #[.agg (barr b1), .bool true]) (by simp [results, Tryz.results101, asAddr, Result.andThen, q]) rfl ⟨⟨_, (r6 hn6), rfl⟩, Below.setRow b (Nat.le_refl _) _⟩
  replace hn6 : (name.toList == ([98, 108, 97, 110, 107] : List UInt8)) = false := by simpa using hn6
  by_cases hn7 : (name.toList == ([115, 112, 97, 99, 101] : List UInt8)) = true
  ·go_wp2_with fail
   refine (Hs1.out _).mono ?_
   rintro e wN ⟨rfl, hB⟩
   have R0 := R0.below hB R0.lt; have R4 := R4.below hB R4.lt; have R5 := R5.below hB R5.lt; have R6 := R6.below hB R6.lt; have R7 := R7.below hB R7.lt; have R8 := R8.below hB R8.lt; have b := b.trans (hB.mono b.size)
   clear hB
   go_wp2_with fail
   refine (Hs2.out _).mono ?_
   rintro e wN ⟨rfl, hB⟩
   have R0 := R0.below hB R0.lt; have R4 := R4.below hB R4.lt; have R5 := R5.below hB R5.lt; have R6 := R6.below hB R6.lt; have R7 := R7.below hB R7.lt; have R8 := R8.below hB R8.lt; have b := b.trans (hB.mono b.size)
   clear hB
   go_wp2_with fail
   refine (Hs3.out _).mono ?_
   rintro e wN ⟨rfl, hB⟩
   have R0 := R0.below hB R0.lt; have R4 := R4.below hB R4.lt; have R5 := R5.below hB R5.lt; have R6 := R6.below hB R6.lt; have R7 := R7.below hB R7.lt; have R8 := R8.below hB R8.lt; have b := b.trans (hB.mono b.size)
   clear hB
   have S8 := R8.storeCells
   go_wp2_with fail
   have R8 := R8.put s3
   have R0 := R0.setRow_other (b' := W.heap.size) (by have := R0.lt; omega) (barr s3)
   have b := Below.setRow b lw (barr s3)
   refine wp_load_row R8 rfl rfl ?_
   have S0 := R0.storeCells
   go_wp2
   have q := (R0.put s3).load
   refine bodyPost_ret (v := .tuple #[.agg (barr s3), .bool true]) (by simp [results, Tryz.results101, asAddr, Result.andThen, q]) rfl ⟨⟨_, (r7 hn7), rfl⟩, Below.setRow b (Nat.le_refl _) _⟩
  replace hn7 : (name.toList == ([115, 112, 97, 99, 101] : List UInt8)) = false := by simpa using hn7
  by_cases hn8 : (name.toList == ([99, 110, 116, 114, 108] : List UInt8)) = true
  ·go_wp2_with fail
   refine (Hc1.out _).mono ?_
   rintro e wN ⟨rfl, hB⟩
   have R0 := R0.below hB R0.lt; have R4 := R4.below hB R4.lt; have R5 := R5.below hB R5.lt; have R6 := R6.below hB R6.lt; have R7 := R7.below hB R7.lt; have R8 := R8.below hB R8.lt; have b := b.trans (hB.mono b.size)
   clear hB
   go_wp2_with fail
   refine (Hc2.out _).mono ?_
   rintro e wN ⟨rfl, hB⟩
   have R0 := R0.below hB R0.lt; have R4 := R4.below hB R4.lt; have R5 := R5.below hB R5.lt; have R6 := R6.below hB R6.lt; have R7 := R7.below hB R7.lt; have R8 := R8.below hB R8.lt; have b := b.trans (hB.mono b.size)
   clear hB
   go_wp2_with fail
   refine (Hc3.out _).mono ?_
   rintro e wN ⟨rfl, hB⟩
   have R0 := R0.below hB R0.lt; have R4 := R4.below hB R4.lt; have R5 := R5.below hB R5.lt; have R6 := R6.below hB R6.lt; have R7 := R7.below hB R7.lt; have R8 := R8.below hB R8.lt; have b := b.trans (hB.mono b.size)
   clear hB
   have S8 := R8.storeCells
   go_wp2_with fail
   have R8 := R8.put c3
   have R0 := R0.setRow_other (b' := W.heap.size) (by have := R0.lt; omega) (barr c3)
   have b := Below.setRow b lw (barr c3)
   refine wp_load_row R8 rfl rfl ?_
   have S0 := R0.storeCells
   go_wp2
   have q := (R0.put c3).load
   refine bodyPost_ret (v := .tuple #[.agg (barr c3), .bool true]) (by simp [results, Tryz.results101, asAddr, Result.andThen, q]) rfl ⟨⟨_, (r8 hn8), rfl⟩, Below.setRow b (Nat.le_refl _) _⟩
  replace hn8 : (name.toList == ([99, 110, 116, 114, 108] : List UInt8)) = false := by simpa using hn8
  by_cases hn9 : (name.toList == ([103, 114, 97, 112, 104] : List UInt8)) = true
  ·go_wp2_with fail
   refine (Hg1.out _).mono ?_
   rintro e wN ⟨rfl, hB⟩
   have R0 := R0.below hB R0.lt; have R4 := R4.below hB R4.lt; have R5 := R5.below hB R5.lt; have R6 := R6.below hB R6.lt; have R7 := R7.below hB R7.lt; have R8 := R8.below hB R8.lt; have b := b.trans (hB.mono b.size)
   clear hB
   have S8 := R8.storeCells
   go_wp2_with fail
   have R8 := R8.put g1
   have R0 := R0.setRow_other (b' := W.heap.size) (by have := R0.lt; omega) (barr g1)
   have b := Below.setRow b lw (barr g1)
   refine wp_load_row R8 rfl rfl ?_
   have S0 := R0.storeCells
   go_wp2
   have q := (R0.put g1).load
   refine bodyPost_ret (v := .tuple #[.agg (barr g1), .bool true]) (by simp [results, Tryz.results101, asAddr, Result.andThen, q]) rfl ⟨⟨_, (r9 hn9), rfl⟩, Below.setRow b (Nat.le_refl _) _⟩
  replace hn9 : (name.toList == ([103, 114, 97, 112, 104] : List UInt8)) = false := by simpa using hn9
  by_cases hn10 : (name.toList == ([112, 114, 105, 110, 116] : List UInt8)) = true
  ·go_wp2_with fail
   refine (Hp1.out _).mono ?_
   rintro e wN ⟨rfl, hB⟩
   have R0 := R0.below hB R0.lt; have R4 := R4.below hB R4.lt; have R5 := R5.below hB R5.lt; have R6 := R6.below hB R6.lt; have R7 := R7.below hB R7.lt; have R8 := R8.below hB R8.lt; have b := b.trans (hB.mono b.size)
   clear hB
   have S8 := R8.storeCells
   go_wp2_with fail
   have R8 := R8.put p1
   have R0 := R0.setRow_other (b' := W.heap.size) (by have := R0.lt; omega) (barr p1)
   have b := Below.setRow b lw (barr p1)
   refine wp_load_row R8 rfl rfl ?_
   have S0 := R0.storeCells
   go_wp2
   have q := (R0.put p1).load
   refine bodyPost_ret (v := .tuple #[.agg (barr p1), .bool true]) (by simp [results, Tryz.results101, asAddr, Result.andThen, q]) rfl ⟨⟨_, (r10 hn10), rfl⟩, Below.setRow b (Nat.le_refl _) _⟩
  replace hn10 : (name.toList == ([112, 114, 105, 110, 116] : List UInt8)) = false := by simpa using hn10
  by_cases hn11 : (name.toList == ([112, 117, 110, 99, 116] : List UInt8)) = true
  ·go_wp2_with fail
   refine (Hg1.out _).mono ?_
   rintro e wN ⟨rfl, hB⟩
   have R0 := R0.below hB R0.lt; have R4 := R4.below hB R4.lt; have R5 := R5.below hB R5.lt; have R6 := R6.below hB R6.lt; have R7 := R7.below hB R7.lt; have R8 := R8.below hB R8.lt; have b := b.trans (hB.mono b.size)
   clear hB
   have S8 := R8.storeCells
   go_wp2_with fail
   clear S8
   have R8 := R8.put g1
   have R0 := R0.setRow_other (b' := W.heap.size) (by omega) (barr g1)
   have R7 := R7.setRow_other (b' := W.heap.size) (by omega) (barr g1)
   have b := Below.setRow b lw (barr g1)
   obtain ⟨V, hV⟩ : ∃ V, V = wN.setRow W.heap.size (barr g1) := ⟨_, rfl⟩
   rw [← hV] at R0 R7 R8 b ⊢
   clear hV R4 R5 R6 hQ
   go_loopw [9] (fun i wr => ∃ k : Nat, k ≤ 256 ∧ i = .int .i64 k ∧ Row wr W.heap.size (fun j => if j < k then (g1 j && !al j) else g1 j) ∧ Row wr p al ∧ Row wr w.heap.size (fun _ => false) ∧ Below w.heap.size w wr) (fun i _ => 256 - (RowKit.intOf i).toNat)
   case atStart => exact ⟨0, by omega, rfl, R8.congr (fun i _ => by simp), R7, R0, b⟩
   case round =>
    obtain ⟨k, hk, rfl, h8, h7, h0, hB⟩ := hrel
    by_cases hlt : k < 256
    ·have hc := h8.cell k hlt
     rw [if_neg (by omega)] at hc
     have hf := h8.fz k
     have hg := h7.cell k hlt
     have hfin : ∀ (v : Bool), v = (g1 k && !al k) → ∀ i, i < 256 → (if i = k then v else if i < k then (g1 i && !al i) else g1 i) = (if i < k + 1 then (g1 i && !al i) else g1 i) := fun v hv i _ => by
      by_cases e : i = k
      ·subst e; simp [hv]
      ·have e2 : (i < k + 1) = (i < k) := propext (by omega)
       simp [e, e2]
     have HF := Lib.hid hfin
     clear hfin
     cases hfk : g1 k
     ·rw [hfk] at hc
      have HF2 := Lib.hid (HF.out false (by rw [hfk]; rfl))
      clear hfk HF
      go_wp2
      go_roundw
      case rel =>
       exact ⟨k + 1, by omega, by simp, (h8.set k false).congr HF2.out, h7.other (p := ⟨W.heap.size, k, none⟩) (by show p ≠ W.heap.size; omega) _, h0.other (p := ⟨W.heap.size, k, none⟩) (by show w.heap.size ≠ W.heap.size; omega) _, hB.setCell (p := ⟨W.heap.size, k, none⟩) (by show w.heap.size ≤ W.heap.size; omega) _⟩
      case measure => (simp [RowKit.intOf]) <;> omega
     ·cases hgk : al k
      all_goals (
       rw [hfk] at hc
       rw [hgk] at hg
       have HF2 := Lib.hid (HF.out _ (by rw [hfk, hgk]))
       clear hfk hgk HF
       go_wp2
       go_roundw
       case rel =>
        exact ⟨k + 1, by omega, by simp, (h8.set k _).congr HF2.out, h7.other (p := ⟨W.heap.size, k, none⟩) (by show p ≠ W.heap.size; omega) _, h0.other (p := ⟨W.heap.size, k, none⟩) (by show w.heap.size ≠ W.heap.size; omega) _, hB.setCell (p := ⟨W.heap.size, k, none⟩) (by show w.heap.size ≤ W.heap.size; omega) _⟩
       case measure => (simp [RowKit.intOf]) <;> omega)
    ·obtain rfl : k = 256 := by omega
     have h8 := h8.congr (g := fun i => g1 i && !al i) (fun i hi => by simp [hi])
     have hst := h0.storeCells
     go_wp2
     refine wp_load_row h8 rfl rfl ?_
     go_wp2
     have q := (h0.put (fun i => g1 i && !al i)).load
     refine bodyPost_ret (v := .tuple #[.agg (barr fun i => g1 i && !al i), .bool true]) (by simp [results, Tryz.results101, asAddr, Result.andThen, q]) rfl ⟨⟨_, (r11 hn11), rfl⟩, Below.setRow hB (Nat.le_refl _) _⟩
  replace hn11 : (name.toList == ([112, 117, 110, 99, 116] : List UInt8)) = false := by simpa using hn11
  have S0 := R0.storeCells
  go_wp2
  have q := (R0.put (fun _ => false)).load
  refine bodyPost_ret (v := .tuple #[.agg (barr fun _ => false), .bool false]) (by simp [results, Tryz.results101, asAddr, Result.andThen, q]) rfl ⟨⟨_, r12 hn0 hn1 hn2 hn3 hn4 hn5 hn6 hn7 hn8 hn9 hn10 hn11, rfl⟩, Below.setRow b (Nat.le_refl _) _⟩
 have HR := Lib.hid hrest
 clear hQ hrest
 obtain ⟨V, hV⟩ : ∃ V, V = ((w3.alloc (.cells (barr fun _ => false) 66)).setRow w3.heap.size (barr d)) := ⟨_, rfl⟩
 rw [← hV] at R0 R4 R5 R6 b ⊢
 clear hV
 refine wp_region_noPanic ?_
 refine wp_region_held_drew (S := fun w' => ((Row w' w.heap.size (fun _ => false) ∧ Row w' w1.heap.size u ∧ Row w' w2.heap.size l ∧ Row w' w3.heap.size d) ∧ Below w.heap.size w w')) (by kernel_rfl) ⟨⟨R0.drew, R4.drew, R5.drew, R6.drew⟩, b.drew⟩ (fun hHeld => ?_)
 refine wpAnyH_take (i := 0) (v := .agg (barr u)) rfl (by kernel_rfl) (by kernel_rfl) (by kernel_rfl) (fun _ _ _ h => h) (Or.inl ⟨by kernel_rfl, fun w hw => run_load_row hw.1.2.1 rfl rfl⟩) (by assumption) ?_
 try simp only [Act.put, laS]
 refine wpAnyH_take (i := 1) (v := .agg (barr l)) rfl (by kernel_rfl) (by kernel_rfl) (by kernel_rfl) (fun _ _ _ h => h) (Or.inl ⟨by kernel_rfl, fun w hw => run_load_row hw.1.2.2.1 rfl rfl⟩) (by assumption) ?_
 try simp only [Act.put, laS]
 refine wpAnyH_take (i := 3) (v := .agg (barr d)) rfl (by kernel_rfl) (by kernel_rfl) (by kernel_rfl) (fun _ _ _ h => h) (Or.inl ⟨by kernel_rfl, fun w hw => run_load_row hw.1.2.2.2 rfl rfl⟩) (by assumption) ?_
 try simp only [Act.put, laS]
 refine wpAnyH_ready (rs := [2, 5]) (by kernel_rfl) (by simp) ?_
 refine AllReadyH.cons rfl (fun K hK => ?_) (AllReadyH.cons rfl (fun K hK => ?_) AllReadyH.nil)
 ·go_simp
  obtain ⟨⟨R0, R4, R5, R6⟩, b⟩ := hHeld
  refine (HUL.out _).mono ?_
  rintro e wN ⟨rfl, hB⟩
  have R0 := R0.below hB R0.lt; have R4 := R4.below hB R4.lt; have R5 := R5.below hB R5.lt; have R6 := R6.below hB R6.lt; have b := b.trans (hB.mono b.size)
  clear hB
  refine hK.out _ _ ?_ (fun hHeld => ?_)
  ·exact ⟨⟨R0, R4, R5, R6⟩, b⟩
  clear hK K
  try simp only [Act.put, laS]
  refine wpAnyH_ready (rs := [4, 5]) (by kernel_rfl) (by simp) ?_
  refine AllReadyH.cons rfl (fun K hK => ?_) (AllReadyH.cons rfl (fun K hK => ?_) AllReadyH.nil)
  ·go_simp
   obtain ⟨⟨R0, R4, R5, R6⟩, b⟩ := hHeld
   refine (HAL.out _).mono ?_
   rintro e wN ⟨rfl, hB⟩
   have R0 := R0.below hB R0.lt; have R4 := R4.below hB R4.lt; have R5 := R5.below hB R5.lt; have R6 := R6.below hB R6.lt; have b := b.trans (hB.mono b.size)
   clear hB
   refine hK.out _ _ ?_ (fun hHeld => ?_)
   ·exact ⟨⟨R0, R4, R5, R6⟩, b⟩
   clear hK K
   try simp only [Act.put, laS]
   refine wpAnyH_ready (rs := [5]) (by kernel_rfl) (by simp) ?_
   refine AllReadyH.cons rfl (fun K hK => ?_) AllReadyH.nil
   obtain ⟨⟨R0, R4, R5, R6⟩, b⟩ := hHeld
   have Z : Row (wN.alloc (.cells (barr fun _ => false) 66)) wN.heap.size (fun _ => false) := Row.new wN _
   have n0 : wN.heap.size ≠ w.heap.size := by have := R0.lt; omega
   have n1 : wN.heap.size ≠ w1.heap.size := by have := R4.lt; omega
   have n2 : wN.heap.size ≠ w2.heap.size := by have := R5.lt; omega
   have n3 : wN.heap.size ≠ w3.heap.size := by have := R6.lt; omega
   have nb := b.size
   go_simp
   refine hK.out _ _ ?_ (fun hHeld => ?_)
   ·exact ⟨⟨R0.alloc _, R4.alloc _, R5.alloc _, R6.alloc _⟩, b.alloc b.size _⟩
   clear hK K
   try simp only [Act.put, laS]
   refine wpAnyH_ready (rs := [6]) (by kernel_rfl) (by simp) ?_
   refine AllReadyH.cons rfl (fun K hK => ?_) AllReadyH.nil
   obtain ⟨⟨R0, R4, R5, R6⟩, b⟩ := hHeld
   have Zs := Z.storeCells
   have bs := barr_size al
   go_simp
   refine hK.out _ _ ?_ (fun hHeld => ?_)
   ·exact ⟨⟨R0.setRow_other n0.symm _, R4.setRow_other n1.symm _, R5.setRow_other n2.symm _, R6.setRow_other n3.symm _⟩, Below.setRow b nb _⟩
   clear hK K
   try simp only [Act.put, laS]
   refine wpAnyH_done (by kernel_rfl) ?_ _
   refine NoPanic.normal ?_
   exact HR.out _ _ hHeld (Z.put _)
  ·obtain ⟨⟨R0, R4, R5, R6⟩, b⟩ := hHeld
   have Z : Row (wN.alloc (.cells (barr fun _ => false) 66)) wN.heap.size (fun _ => false) := Row.new wN _
   have n0 : wN.heap.size ≠ w.heap.size := by have := R0.lt; omega
   have n1 : wN.heap.size ≠ w1.heap.size := by have := R4.lt; omega
   have n2 : wN.heap.size ≠ w2.heap.size := by have := R5.lt; omega
   have n3 : wN.heap.size ≠ w3.heap.size := by have := R6.lt; omega
   have nb := b.size
   go_simp
   refine hK.out _ _ ?_ (fun hHeld => ?_)
   ·exact ⟨⟨R0.alloc _, R4.alloc _, R5.alloc _, R6.alloc _⟩, b.alloc b.size _⟩
   clear hK K
   try simp only [Act.put, laS]
   refine wpAnyH_ready (rs := [4]) (by kernel_rfl) (by simp) ?_
   refine AllReadyH.cons rfl (fun K hK => ?_) AllReadyH.nil
   go_simp
   obtain ⟨⟨R0, R4, R5, R6⟩, b⟩ := hHeld
   refine (HAL.out _).mono ?_
   rintro e wN ⟨rfl, hB⟩
   have R0 := R0.below hB R0.lt; have R4 := R4.below hB R4.lt; have R5 := R5.below hB R5.lt; have R6 := R6.below hB R6.lt; have b := b.trans (hB.mono b.size)
   have Z := Z.below hB Z.lt
   clear hB
   refine hK.out _ _ ?_ (fun hHeld => ?_)
   ·exact ⟨⟨R0, R4, R5, R6⟩, b⟩
   clear hK K
   try simp only [Act.put, laS]
   refine wpAnyH_ready (rs := [6]) (by kernel_rfl) (by simp) ?_
   refine AllReadyH.cons rfl (fun K hK => ?_) AllReadyH.nil
   obtain ⟨⟨R0, R4, R5, R6⟩, b⟩ := hHeld
   have Zs := Z.storeCells
   have bs := barr_size al
   go_simp
   refine hK.out _ _ ?_ (fun hHeld => ?_)
   ·exact ⟨⟨R0.setRow_other n0.symm _, R4.setRow_other n1.symm _, R5.setRow_other n2.symm _, R6.setRow_other n3.symm _⟩, Below.setRow b nb _⟩
   clear hK K
   try simp only [Act.put, laS]
   refine wpAnyH_done (by kernel_rfl) ?_ _
   refine NoPanic.normal ?_
   exact HR.out _ _ hHeld (Z.put _)
 ·obtain ⟨⟨R0, R4, R5, R6⟩, b⟩ := hHeld
  have Z : Row (V.drew.alloc (.cells (barr fun _ => false) 66)) V.heap.size (fun _ => false) := Row.new V.drew _
  have n0 : V.drew.heap.size ≠ w.heap.size := by have := R0.lt; omega
  have n1 : V.drew.heap.size ≠ w1.heap.size := by have := R4.lt; omega
  have n2 : V.drew.heap.size ≠ w2.heap.size := by have := R5.lt; omega
  have n3 : V.drew.heap.size ≠ w3.heap.size := by have := R6.lt; omega
  have nb := b.size
  go_simp
  refine hK.out _ _ ?_ (fun hHeld => ?_)
  ·exact ⟨⟨R0.alloc _, R4.alloc _, R5.alloc _, R6.alloc _⟩, b.alloc b.size _⟩
  clear hK K
  try simp only [Act.put, laS]
  refine wpAnyH_ready (rs := [2]) (by kernel_rfl) (by simp) ?_
  refine AllReadyH.cons rfl (fun K hK => ?_) AllReadyH.nil
  go_simp
  obtain ⟨⟨R0, R4, R5, R6⟩, b⟩ := hHeld
  refine (HUL.out _).mono ?_
  rintro e wN ⟨rfl, hB⟩
  have R0 := R0.below hB R0.lt; have R4 := R4.below hB R4.lt; have R5 := R5.below hB R5.lt; have R6 := R6.below hB R6.lt; have b := b.trans (hB.mono b.size)
  have Z := Z.below hB Z.lt
  clear hB
  refine hK.out _ _ ?_ (fun hHeld => ?_)
  ·exact ⟨⟨R0, R4, R5, R6⟩, b⟩
  clear hK K
  try simp only [Act.put, laS]
  refine wpAnyH_ready (rs := [4]) (by kernel_rfl) (by simp) ?_
  refine AllReadyH.cons rfl (fun K hK => ?_) AllReadyH.nil
  go_simp
  obtain ⟨⟨R0, R4, R5, R6⟩, b⟩ := hHeld
  refine (HAL.out _).mono ?_
  rintro e wN ⟨rfl, hB⟩
  have R0 := R0.below hB R0.lt; have R4 := R4.below hB R4.lt; have R5 := R5.below hB R5.lt; have R6 := R6.below hB R6.lt; have b := b.trans (hB.mono b.size)
  have Z := Z.below hB Z.lt
  clear hB
  refine hK.out _ _ ?_ (fun hHeld => ?_)
  ·exact ⟨⟨R0, R4, R5, R6⟩, b⟩
  clear hK K
  try simp only [Act.put, laS]
  refine wpAnyH_ready (rs := [6]) (by kernel_rfl) (by simp) ?_
  refine AllReadyH.cons rfl (fun K hK => ?_) AllReadyH.nil
  obtain ⟨⟨R0, R4, R5, R6⟩, b⟩ := hHeld
  have Zs := Z.storeCells
  have bs := barr_size al
  go_simp
  refine hK.out _ _ ?_ (fun hHeld => ?_)
  ·exact ⟨⟨R0.setRow_other n0.symm _, R4.setRow_other n1.symm _, R5.setRow_other n2.symm _, R6.setRow_other n3.symm _⟩, Below.setRow b nb _⟩
  clear hK K
  try simp only [Act.put, laS]
  refine wpAnyH_done (by kernel_rfl) ?_ _
  refine NoPanic.normal ?_
  exact HR.out _ _ hHeld (Z.put _)
end Go.Proofs.YtkcbknfhckomcaaGreatDoor
