/- The walk of MatchOne. -/
import Derived.Test.YtibkllialokdeaaGreatDoorDMdQ
import Derived.Test.YtibkllialokdeaaGreatDoorRows
import Derived.Test.YtibkllialokdeaaGreatDoorTie
import Derived.Test.YtibkllialokdeaaGreatDoorCards
set_option linter.unusedVariables false
set_option linter.unusedSimpArgs false
set_option maxRecDepth 100000
set_option maxHeartbeats 40000000
namespace Go.Proofs.YtibkllialokdeaaGreatDoor
open Go.RowKit Go.Lib Go.Maps Go.WideMaps
abbrev sW (F : Nat → Bool) : Array Value := #[.int .u64 (wd F 0), .int .u64 (wd F 1), .int .u64 (wd F 2), .int .u64 (wd F 3)]
abbrev nO (F : Nat → Bool) : Array Value := #[.int .i64 1, .int .u64 (wd F 0), .int .u64 (wd F 1), .int .u64 (wd F 2), .int .u64 (wd F 3), .int .i64 0, .int .i64 0, .int .i64 0, .int .i64 0, .int .i64 0]
theorem nodes_one {w : World} {b : Nat} {F : Nat → Bool} (h : Blk w b (nO F) 57) : NodesAt w b 0 [ndO F] := by
 refine ⟨h.lt, fun i x hx j v hv => ?_⟩
 have hi : i = 0 := by have := (List.getElem?_eq_some_iff.1 hx).1; simpa using this
 subst hi
 obtain rfl : ndO F = x := Option.some.inj hx
 rw [show 0 + 0 * 10 + j = j by omega, h.cell j]
 exact hv
theorem eq_str (A B : List UInt8) (h : A = B) (t : TypeId) (W : World) (ht : Tryz.prog.underlying t = some .string) : (binOp .eql t (.string ⟨A.toArray⟩) (.string ⟨B.toArray⟩)).run Tryz.prog W = .ok (.bool true) W := by
 subst h
 go_simp
theorem one_go (F : Nat → Bool) (s : List UInt8) (i j a b : Nat) (w : World) (hl : s.length ≤ 40) (hF : cnt F 256 ≠ 0) (hi : i < 256) (hj : j < 256) (ha : i % (s.length + 1) = a) (hb : j % (s.length + 1) = b)
  (hT : TabAt 0 Lib.deBruijn64tab w) (h0 : 0 < w.heap.size)
  (hsh : ∀ W, Below w.heap.size w W → Calls Tryz.prog 10 #[] W fun e w' => e = .returned (.bool true) ∧ Below W.heap.size W w') :
  Calls Tryz.prog 7 #[sv F, .string ⟨s.toArray⟩, .int .u8 (i : Int), .int .u8 (j : Int)] w fun e w' => e = .returned (.bool true) ∧ Below w.heap.size w w' := by
 have hak : (i : Int) % ((s.length : Int) + 1) = (a : Int) := by rw [← ha]; simp
 have hbk : (j : Int) % ((s.length : Int) + 1) = (b : Int) := by rw [← hb]; simp
 have has : a ≤ s.length := by rw [← ha]; have := Nat.mod_lt i (show 0 < s.length + 1 by omega); omega
 have hbs : b ≤ s.length := by rw [← hb]; have := Nat.mod_lt j (show 0 < s.length + 1 by omega); omega
 have HSZ := Lib.hid (fun W => size_c F W)
 have hz : ((cnt F 256 : Nat) : Int) ≠ 0 := by omega
 have hz' : (((cnt F 256 : Nat) : Int) == 0) = false := by rw [beq_eq_false_iff_ne]; exact hz
 have HSH := Lib.hid hsh
 have HAK := Lib.hid hak
 have HBK := Lib.hid hbk
 have HN := Lib.hid (fun w => mnone_c w)
 have HEQ := Lib.hid (And.intro noC_eq noC_gd)
 obtain ⟨Z, hZ⟩ : ∃ Z, Z = whC s (.leaf (ndO F)) a b := ⟨_, rfl⟩
 obtain ⟨R, hR⟩ : ∃ R, R = whR s (.leaf (ndO F)) a b := ⟨_, rfl⟩
 have HWH : Hid (∀ (W : World) (g c : Nat), Below w.heap.size w W → NodesAt W g 0 [ndO F] → Calls Tryz.prog 11 #[.slice (some ⟨g, 0, none⟩) 1 c, .string ⟨s.toArray⟩, .int .i64 a, .int .i64 b] W fun e w' => e = .returned (.tuple #[capV Z, .bool R]) ∧ Below W.heap.size W w') := Lib.hid (fun W g c hB hx => by
  have := Whole_c g 0 c s [ndO F] (.leaf (ndO F)) (one_pat hF) (fun i x hx => by
   have := List.mem_of_getElem? hx
   have e : x = ndO F := by simpa using this
   rw [e]; exact ndO_fits F) (by omega) (fun h => absurd h (by show ¬ 0 < (if (ndO F).kind = 8 then 1 else 0); rw [if_neg (by show ¬ (1 : Int) = 8; omega)]; omega)) a b has hbs W hx (tab_below hT hB h0) (Nat.lt_of_lt_of_le h0 hB.size)
  rw [← hZ, ← hR] at this
  exact this)
 have hRe := one_wh s F a b
 rw [← hR] at hRe
 have hZe := one_cap s F a b
 rw [← hZ, ← hR] at hZe
 have HRE := Lib.hid hRe
 have HZE := Lib.hid hZe
 clear hak hbk ha hb hsh hF hz hZ hR hRe hZe hT
 have hli : ¬ (40 : Int) < (s.length : Int) := by omega
 unfold sv
 go_enter Tryz.func7, Tryz.ntmps7
 have HB0 : Hid (Blk (w.alloc (.cells (sW F) 54)) w.heap.size (sW F) 54 ∧ Below w.heap.size w (w.alloc (.cells (sW F) 54))) := Lib.hid ⟨Blk.new _ _ _, (Below.refl _ _).alloc (Nat.le_refl _) _⟩
 have HSZ' := HSZ
 unfold sv at HSZ'
 go_wp2_with fail
 refine (HSZ'.out _).mono ?_
 rintro e w1 ⟨rfl, hB1⟩
 have hb1 := HB0.out.1.below hB1 (by simp)
 have hB1' := HB0.out.2.trans (hB1.mono (by simp))
 have H1 := Lib.hid (And.intro hb1 hB1')
 clear hB1 hb1 hB1' HSZ HSZ'
 go_wp2_with fail
 refine (HSH.out _ H1.out.2).mono ?_
 rintro e w2 ⟨rfl, hB2⟩
 have lw2 := H1.out.2.size
 have hb2 := H1.out.1.below hB2 H1.out.1.lt
 have hB2' := H1.out.2.trans (hB2.mono lw2)
 have H2 := Lib.hid (And.intro hb2 hB2')
 have c0 : w2.cell? ⟨w.heap.size, 0, none⟩ = some (.int .u64 (wd F 0)) := hb2.cell 0
 have c1 : w2.cell? ⟨w.heap.size, 1, none⟩ = some (.int .u64 (wd F 1)) := hb2.cell 1
 have c2 : w2.cell? ⟨w.heap.size, 2, none⟩ = some (.int .u64 (wd F 2)) := hb2.cell 2
 have c3 : w2.cell? ⟨w.heap.size, 3, none⟩ = some (.int .u64 (wd F 3)) := hb2.cell 3
 have HB3 : Hid (Below w.heap.size w (w2.alloc (.cells (nO F) 57)) ∧ NodesAt (w2.alloc (.cells (nO F) 57)) w2.heap.size 0 [ndO F] ∧ Blk (w2.alloc (.cells (nO F) 57)) w.heap.size (sW F) 54) := Lib.hid ⟨hB2'.alloc hB2'.size _, nodes_one (Blk.new _ _ _), hb2.alloc _⟩
 clear hB2 hb2 hB2'
 go_wp2_with fail
 rw [HAK.out, HBK.out]
 refine (HWH.out _ _ _ HB3.out.1 HB3.out.2.1).mono ?_
 rintro e w3 ⟨rfl, hB3⟩
 have l3 := hB3.size
 have hb3 := HB3.out.2.2.below hB3 (by have := H2.out.1.lt; simp; omega)
 have hB3' := HB3.out.1.trans (hB3.mono HB3.out.1.size)
 have hbz := capBlk w3 Z
 have hb4 := hb3.alloc (.cells (cH Z) 27)
 have hB4 := hB3'.alloc hB3'.size (.cells (cH Z) 27)
 have H4 := Lib.hid (And.intro hbz (And.intro hb4 hB4))
 clear hB3 hb3 hB3' hbz hb4 hB4 c0 c1 c2 c3
 unfold capV
 by_cases hab : b = a + 1
 ·subst hab
  obtain ⟨c, hc⟩ : ∃ c, s[a]? = some c := ⟨s[a]'(by omega), List.getElem?_eq_getElem _⟩
  have hr : R = F c.toNat := by rw [HRE.out, hc]; simp
  have HHAS : Hid (∀ W, Calls Tryz.prog 29 #[.agg (sW F), .int .u8 (c.toNat : Int)] W fun e w' => e = .returned (.bool R) ∧ Below W.heap.size W w') := Lib.hid (fun W => by rw [hr]; exact has_c F c.toNat c.toNat_lt W)
  have hal : a < s.length := by omega
  have hsc : (⟨s.toArray⟩ : ByteArray)[a]'(by simpa [ByteArray.size] using hal) = c := by
   rw [List.getElem?_eq_getElem hal] at hc
   exact Option.some.inj hc
  have j1 : ((a : Int) + 1 == (a : Int) + 1) = true := by simp
  have jw : IntKind.i64.wrap ((a : Int) + 1) = (a : Int) + 1 := by simp [IntKind.wrap, IntKind.signed, IntKind.bits]; omega
  have jc : (((a + 1 : Nat) : Int)) = (a : Int) + 1 := by omega
  have JC := Lib.hid jc
  clear hr hc jc
  cases R with
  | true =>
   have hZe := HZE.out
   simp only [if_true] at hZe
   have hzc : CapOk s.length Z := fun g x y e => by
    rw [hZe] at e
    dsimp only at e
    split at e
    ·cases e; omega
    ·cases e
   have HGP : Hid (∀ W, Calls Tryz.prog 14 #[.string ⟨s.toArray⟩, .agg (cH Z), .int .i64 0] W fun e w' => e = .returned (.string ⟨((s.drop a).take 1).toArray⟩) ∧ Below W.heap.size W w') := Lib.hid (fun W => by
    have := mgroup_c s (by omega) Z hzc 0 W
    rw [if_pos ⟨by omega, by omega⟩, show (0 : Int).toNat = 0 from rfl, show cutO s (Z 0) = (s.drop a).take 1 by rw [hZe]; simp [cutO]] at this
    exact this)
   have HSL : Hid (∀ W, (Instr.slice 9 (.string ⟨s.toArray⟩) (some (.int .i64 (a : Int))) (some (.int .i64 ((a : Int) + 1))) none).run Tryz.prog W = .ok (.string ⟨((s.drop a).take 1).toArray⟩) W) := Lib.hid (fun W => by
    have hsz : (⟨s.toArray⟩ : ByteArray).size = s.length := by simp [ByteArray.size]
    rw [run_slice_string_if (P := Tryz.prog) W 9 _ .i64 .i64 (a : Int) ((a : Int) + 1) Tryz.underlying9, if_pos ⟨by omega, by rw [hsz]; omega⟩, if_pos ⟨by omega, by omega⟩, show ((a : Int) + 1).toNat = a + 1 by omega, Int.toNat_natCast, extract_list, show a + 1 - a = 1 by omega])
   have HES : Hid (∀ W, (binOp .eql 9 (.string ⟨((s.drop a).take 1).toArray⟩) (.string ⟨((s.drop a).take 1).toArray⟩)).run Tryz.prog W = .ok (.bool true) W) := Lib.hid (fun W => eq_str _ _ rfl _ W Tryz.underlying9)
   clear hZe hzc
   go_wp2_with fail
   refine wp_region_noPanic ?_
   refine wp_region_held_drew (S := fun w' => Blk w' w.heap.size (sW F) 54 ∧ Blk w' w3.heap.size (cH Z) 27 ∧ Below w.heap.size w w') (by kernel_rfl) ?_ (fun hHeld => ?_)
   ·(try dsimp only); exact ⟨H4.out.2.1.drew, H4.out.1.drew, H4.out.2.2.drew⟩
   refine tk (i := 0) (v := ?_) rfl ?_ ?_; rotate_left
   ·(intro wq hSw; (try dsimp only at hSw); obtain ⟨sb, sz, hBs⟩ := hSw; go_simp); (try with_reducible rfl)
   (try simp only [Act.put, tkS])
   refine tk (i := 1) (v := ?_) rfl ?_ ?_; rotate_left
   ·(intro wq hSw; (try dsimp only at hSw); obtain ⟨sb, sz, hBs⟩ := hSw; go_simp); (try with_reducible rfl)
   (try simp only [Act.put, tkS])
   refine tk (i := 2) (v := ?_) rfl ?_ ?_; rotate_left
   ·(intro wq hSw; (try dsimp only at hSw); obtain ⟨sb, sz, hBs⟩ := hSw; go_simp); (try with_reducible rfl)
   (try simp only [Act.put, tkS])
   refine tk (i := 3) (v := ?_) rfl ?_ ?_; rotate_left
   ·(intro wq hSw; (try dsimp only at hSw); obtain ⟨sb, sz, hBs⟩ := hSw; go_simp); (try with_reducible rfl)
   (try simp only [Act.put, tkS])
   refine tk (i := 4) (v := ?_) rfl ?_ ?_; rotate_left
   ·(intro wq hSw; (try dsimp only at hSw); obtain ⟨sb, sz, hBs⟩ := hSw; go_simp); (try with_reducible rfl)
   (try simp only [Act.put, tkS])
   refine tk (i := 5) (v := ?_) rfl ?_ ?_; rotate_left
   ·(intro wq hSw; (try dsimp only at hSw); obtain ⟨sb, sz, hBs⟩ := hSw; go_simp); (try with_reducible rfl)
   (try simp only [Act.put, tkS])
   refine tk (i := 6) (v := ?_) rfl ?_ ?_; rotate_left
   ·(intro wq hSw; (try dsimp only at hSw); obtain ⟨sb, sz, hBs⟩ := hSw; have c0 : wq.cell? ⟨w.heap.size, 0, none⟩ = some (.int .u64 (wd F 0)) := sb.cell 0; have c1 : wq.cell? ⟨w.heap.size, 1, none⟩ = some (.int .u64 (wd F 1)) := sb.cell 1; have c2 : wq.cell? ⟨w.heap.size, 2, none⟩ = some (.int .u64 (wd F 2)) := sb.cell 2; have c3 : wq.cell? ⟨w.heap.size, 3, none⟩ = some (.int .u64 (wd F 3)) := sb.cell 3; go_simp); (try with_reducible rfl)
   (try simp only [Act.put, tkS])
   refine tk (i := 7) (v := ?_) rfl ?_ ?_; rotate_left
   ·(intro wq hSw; (try dsimp only at hSw); obtain ⟨sb, sz, hBs⟩ := hSw; go_simp); (try with_reducible rfl)
   (try simp only [Act.put, tkS])
   refine tk (i := 8) (v := ?_) rfl ?_ ?_; rotate_left
   ·(intro wq hSw; (try dsimp only at hSw); obtain ⟨sb, sz, hBs⟩ := hSw; go_simp); (try with_reducible rfl)
   (try simp only [Act.put, tkS])
   refine tk (i := 9) (v := ?_) rfl ?_ ?_; rotate_left
   ·(intro wq hSw; (try dsimp only at hSw); obtain ⟨sb, sz, hBs⟩ := hSw; go_simp); (try with_reducible rfl)
   (try simp only [Act.put, tkS])
   refine wpAnyH_ready (rs := [10]) (by kernel_rfl) (by simp) ?_
   refine AllReadyH.cons rfl (fun K hK => ?_) ?_
   rotate_left
   ·exact AllReadyH.nil
   go_simp
   have hHn := hHeld
   obtain ⟨sb, sz, hBs⟩ := hHn
   refine (HHAS.out _).mono ?_
   rintro e wn ⟨rfl, hBn⟩
   refine hK.out _ _ ?_ (fun hHeld => ?_)
   ·(try dsimp only); exact ⟨sb.below hBn sb.lt, sz.below hBn sz.lt, hBs.trans (hBn.mono hBs.size)⟩
   clear hK K
   (try simp only [Act.put, tkS])
   refine tk (i := 11) (v := ?_) rfl ?_ ?_; rotate_left
   ·(intro wq hSw; (try dsimp only at hSw); obtain ⟨sb, sz, hBs⟩ := hSw; go_simp); (try with_reducible rfl)
   (try simp only [Act.put, tkS])
   refine tk (i := 12) (v := ?_) rfl ?_ ?_; rotate_left
   ·(intro wq hSw; (try dsimp only at hSw); obtain ⟨sb, sz, hBs⟩ := hSw; go_simp); (try with_reducible rfl)
   (try simp only [Act.put, tkS])
   refine wpAnyH_done (by kernel_rfl) ?_ _
   refine NoPanic.normal ?_
   go_wp2_with fail
   refine wp_region_noPanic ?_
   refine wp_region_held_drew (S := fun w' => Blk w' w.heap.size (sW F) 54 ∧ Blk w' w3.heap.size (cH Z) 27 ∧ Below w.heap.size w w') (by kernel_rfl) ?_ (fun hHeld => ?_)
   ·(try dsimp only); exact ⟨hHeld.1.drew, hHeld.2.1.drew, hHeld.2.2.drew⟩
   refine tk (i := 0) (v := ?_) rfl ?_ ?_; rotate_left
   ·(intro wq hSw; (try dsimp only at hSw); obtain ⟨sb, sz, hBs⟩ := hSw; go_simp); (try with_reducible rfl)
   (try simp only [Act.put, tkS])
   refine tk (i := 1) (v := ?_) rfl ?_ ?_; rotate_left
   ·(intro wq hSw; (try dsimp only at hSw); obtain ⟨sb, sz, hBs⟩ := hSw; go_simp); (try with_reducible rfl)
   (try simp only [Act.put, tkS])
   refine tk (i := 2) (v := ?_) rfl ?_ ?_; rotate_left
   ·(intro wq hSw; (try dsimp only at hSw); obtain ⟨sb, sz, hBs⟩ := hSw; go_simp); (try with_reducible rfl)
   (try simp only [Act.put, tkS])
   refine tku (i := 3) rfl ?_
   (try simp only [Act.put, tkS])
   refine tku (i := 4) rfl ?_
   (try simp only [Act.put, tkS])
   refine tku (i := 5) rfl ?_
   (try simp only [Act.put, tkS])
   refine tk (i := 6) (v := ?_) rfl ?_ ?_; rotate_left
   ·(intro wq hSw; (try dsimp only at hSw); obtain ⟨sb, sz, hBs⟩ := hSw; go_simp); (try with_reducible rfl)
   (try simp only [Act.put, tkS])
   refine tk (i := 7) (v := ?_) rfl ?_ ?_; rotate_left
   ·(intro wq hSw; (try dsimp only at hSw); obtain ⟨sb, sz, hBs⟩ := hSw; go_simp); (try with_reducible rfl)
   (try simp only [Act.put, tkS])
   refine tk (i := 8) (v := ?_) rfl ?_ ?_; rotate_left
   ·(intro wq hSw; (try dsimp only at hSw); obtain ⟨sb, sz, hBs⟩ := hSw; go_simp); (try with_reducible rfl)
   (try simp only [Act.put, tkS])
   refine tk (i := 9) (v := ?_) rfl ?_ ?_; rotate_left
   ·(intro wq hSw; (try dsimp only at hSw); obtain ⟨sb, sz, hBs⟩ := hSw; go_simp); (try with_reducible rfl)
   (try simp only [Act.put, tkS])
   refine tk (i := 10) (v := ?_) rfl ?_ ?_; rotate_left
   ·(intro wq hSw; (try dsimp only at hSw); obtain ⟨sb, sz, hBs⟩ := hSw; go_simp); (try with_reducible rfl)
   (try simp only [Act.put, tkS])
   refine tk (i := 11) (v := ?_) rfl ?_ ?_; rotate_left
   ·(intro wq hSw; (try dsimp only at hSw); obtain ⟨sb, sz, hBs⟩ := hSw; obtain ⟨e0, e1, e2, e3, e4, e5, e6, e7, e8, e9⟩ := capBlk.ten sz; go_simp); (try with_reducible rfl)
   (try simp only [Act.put, tkS])
   refine tk (i := 13) (v := ?_) rfl ?_ ?_; rotate_left
   ·(intro wq hSw; (try dsimp only at hSw); obtain ⟨sb, sz, hBs⟩ := hSw; go_simp); (try with_reducible rfl)
   (try simp only [Act.put, tkS])
   refine tk (i := 14) (v := ?_) rfl ?_ ?_; rotate_left
   ·(intro wq hSw; (try dsimp only at hSw); obtain ⟨sb, sz, hBs⟩ := hSw; go_simp); (try with_reducible rfl)
   (try simp only [Act.put, tkS])
   refine tk (i := 15) (v := ?_) rfl ?_ ?_; rotate_left
   ·(intro wq hSw; (try dsimp only at hSw); obtain ⟨sb, sz, hBs⟩ := hSw; go_simp); (try with_reducible rfl)
   (try simp only [Act.put, tkS])
   refine tk (i := 16) (v := ?_) rfl ?_ ?_; rotate_left
   ·(intro wq hSw; (try dsimp only at hSw); obtain ⟨sb, sz, hBs⟩ := hSw; have hsl := HSL.out; go_simp); (try with_reducible rfl)
   (try simp only [Act.put, tkS])
   refine wpAnyH_ready (rs := [12]) (by kernel_rfl) (by simp) ?_
   refine AllReadyH.cons rfl (fun K hK => ?_) ?_
   rotate_left
   ·exact AllReadyH.nil
   go_simp
   have hHn := hHeld
   obtain ⟨sb, sz, hBs⟩ := hHn
   refine (HGP.out _).mono ?_
   rintro e wn ⟨rfl, hBn⟩
   refine hK.out _ _ ?_ (fun hHeld => ?_)
   ·(try dsimp only); exact ⟨sb.below hBn sb.lt, sz.below hBn sz.lt, hBs.trans (hBn.mono hBs.size)⟩
   clear hK K
   (try simp only [Act.put, tkS])
   refine tk (i := 17) (v := ?_) rfl ?_ ?_; rotate_left
   ·(intro wq hSw; (try dsimp only at hSw); obtain ⟨sb, sz, hBs⟩ := hSw; have hes := HES.out; go_simp); (try with_reducible rfl)
   (try simp only [Act.put, tkS])
   refine tk (i := 18) (v := ?_) rfl ?_ ?_; rotate_left
   ·(intro wq hSw; (try dsimp only at hSw); obtain ⟨sb, sz, hBs⟩ := hSw; go_simp); (try with_reducible rfl)
   (try simp only [Act.put, tkS])
   refine tk (i := 19) (v := ?_) rfl ?_ ?_; rotate_left
   ·(intro wq hSw; (try dsimp only at hSw); obtain ⟨sb, sz, hBs⟩ := hSw; go_simp); (try with_reducible rfl)
   (try simp only [Act.put, tkS])
   refine tk (i := 20) (v := ?_) rfl ?_ ?_; rotate_left
   ·(intro wq hSw; (try dsimp only at hSw); obtain ⟨sb, sz, hBs⟩ := hSw; go_simp); (try with_reducible rfl)
   (try simp only [Act.put, tkS])
   refine wpAnyH_done (by kernel_rfl) ?_ _
   refine NoPanic.normal ?_
   go_wp2
   go_ret
   exact ⟨rfl, hHeld.2.2⟩
  | false =>
   obtain rfl : Z = noC := by rw [HZE.out]; simp
   go_wp2_with fail
   refine wp_region_noPanic ?_
   refine wp_region_held_drew (S := fun w' => Blk w' w.heap.size (sW F) 54 ∧ Blk w' w3.heap.size (cH noC) 27 ∧ Below w.heap.size w w') (by kernel_rfl) ?_ (fun hHeld => ?_)
   ·(try dsimp only); exact ⟨H4.out.2.1.drew, H4.out.1.drew, H4.out.2.2.drew⟩
   refine tk (i := 0) (v := ?_) rfl ?_ ?_; rotate_left
   ·(intro wq hSw; (try dsimp only at hSw); obtain ⟨sb, sz, hBs⟩ := hSw; go_simp); (try with_reducible rfl)
   (try simp only [Act.put, tkS])
   refine tk (i := 1) (v := ?_) rfl ?_ ?_; rotate_left
   ·(intro wq hSw; (try dsimp only at hSw); obtain ⟨sb, sz, hBs⟩ := hSw; go_simp); (try with_reducible rfl)
   (try simp only [Act.put, tkS])
   refine tk (i := 2) (v := ?_) rfl ?_ ?_; rotate_left
   ·(intro wq hSw; (try dsimp only at hSw); obtain ⟨sb, sz, hBs⟩ := hSw; go_simp); (try with_reducible rfl)
   (try simp only [Act.put, tkS])
   refine tk (i := 3) (v := ?_) rfl ?_ ?_; rotate_left
   ·(intro wq hSw; (try dsimp only at hSw); obtain ⟨sb, sz, hBs⟩ := hSw; go_simp); (try with_reducible rfl)
   (try simp only [Act.put, tkS])
   refine tk (i := 4) (v := ?_) rfl ?_ ?_; rotate_left
   ·(intro wq hSw; (try dsimp only at hSw); obtain ⟨sb, sz, hBs⟩ := hSw; go_simp); (try with_reducible rfl)
   (try simp only [Act.put, tkS])
   refine tk (i := 5) (v := ?_) rfl ?_ ?_; rotate_left
   ·(intro wq hSw; (try dsimp only at hSw); obtain ⟨sb, sz, hBs⟩ := hSw; go_simp); (try with_reducible rfl)
   (try simp only [Act.put, tkS])
   refine tk (i := 6) (v := ?_) rfl ?_ ?_; rotate_left
   ·(intro wq hSw; (try dsimp only at hSw); obtain ⟨sb, sz, hBs⟩ := hSw; have c0 : wq.cell? ⟨w.heap.size, 0, none⟩ = some (.int .u64 (wd F 0)) := sb.cell 0; have c1 : wq.cell? ⟨w.heap.size, 1, none⟩ = some (.int .u64 (wd F 1)) := sb.cell 1; have c2 : wq.cell? ⟨w.heap.size, 2, none⟩ = some (.int .u64 (wd F 2)) := sb.cell 2; have c3 : wq.cell? ⟨w.heap.size, 3, none⟩ = some (.int .u64 (wd F 3)) := sb.cell 3; go_simp); (try with_reducible rfl)
   (try simp only [Act.put, tkS])
   refine tk (i := 7) (v := ?_) rfl ?_ ?_; rotate_left
   ·(intro wq hSw; (try dsimp only at hSw); obtain ⟨sb, sz, hBs⟩ := hSw; go_simp); (try with_reducible rfl)
   (try simp only [Act.put, tkS])
   refine tk (i := 8) (v := ?_) rfl ?_ ?_; rotate_left
   ·(intro wq hSw; (try dsimp only at hSw); obtain ⟨sb, sz, hBs⟩ := hSw; go_simp); (try with_reducible rfl)
   (try simp only [Act.put, tkS])
   refine tk (i := 9) (v := ?_) rfl ?_ ?_; rotate_left
   ·(intro wq hSw; (try dsimp only at hSw); obtain ⟨sb, sz, hBs⟩ := hSw; go_simp); (try with_reducible rfl)
   (try simp only [Act.put, tkS])
   refine wpAnyH_ready (rs := [10]) (by kernel_rfl) (by simp) ?_
   refine AllReadyH.cons rfl (fun K hK => ?_) ?_
   rotate_left
   ·exact AllReadyH.nil
   go_simp
   have hHn := hHeld
   obtain ⟨sb, sz, hBs⟩ := hHn
   refine (HHAS.out _).mono ?_
   rintro e wn ⟨rfl, hBn⟩
   refine hK.out _ _ ?_ (fun hHeld => ?_)
   ·(try dsimp only); exact ⟨sb.below hBn sb.lt, sz.below hBn sz.lt, hBs.trans (hBn.mono hBs.size)⟩
   clear hK K
   (try simp only [Act.put, tkS])
   refine tk (i := 11) (v := ?_) rfl ?_ ?_; rotate_left
   ·(intro wq hSw; (try dsimp only at hSw); obtain ⟨sb, sz, hBs⟩ := hSw; go_simp); (try with_reducible rfl)
   (try simp only [Act.put, tkS])
   refine tk (i := 12) (v := ?_) rfl ?_ ?_; rotate_left
   ·(intro wq hSw; (try dsimp only at hSw); obtain ⟨sb, sz, hBs⟩ := hSw; go_simp); (try with_reducible rfl)
   (try simp only [Act.put, tkS])
   refine wpAnyH_done (by kernel_rfl) ?_ _
   refine NoPanic.normal ?_
   go_wp2_with fail
   refine wp_region_noPanic ?_
   refine wp_region_held_drew (S := fun w' => Blk w' w.heap.size (sW F) 54 ∧ Blk w' w3.heap.size (cH noC) 27 ∧ Below w.heap.size w w') (by kernel_rfl) ?_ (fun hHeld => ?_)
   ·(try dsimp only); exact ⟨hHeld.1.drew, hHeld.2.1.drew, hHeld.2.2.drew⟩
   refine tk (i := 0) (v := ?_) rfl ?_ ?_; rotate_left
   ·(intro wq hSw; (try dsimp only at hSw); obtain ⟨sb, sz, hBs⟩ := hSw; go_simp); (try with_reducible rfl)
   (try simp only [Act.put, tkS])
   refine tk (i := 1) (v := ?_) rfl ?_ ?_; rotate_left
   ·(intro wq hSw; (try dsimp only at hSw); obtain ⟨sb, sz, hBs⟩ := hSw; go_simp); (try with_reducible rfl)
   (try simp only [Act.put, tkS])
   refine tk (i := 2) (v := ?_) rfl ?_ ?_; rotate_left
   ·(intro wq hSw; (try dsimp only at hSw); obtain ⟨sb, sz, hBs⟩ := hSw; go_simp); (try with_reducible rfl)
   (try simp only [Act.put, tkS])
   refine tk (i := 3) (v := ?_) rfl ?_ ?_; rotate_left
   ·(intro wq hSw; (try dsimp only at hSw); obtain ⟨sb, sz, hBs⟩ := hSw; obtain ⟨e0, e1, e2, e3, e4, e5, e6, e7, e8, e9⟩ := capBlk.ten sz; go_simp); (try with_reducible rfl)
   (try simp only [Act.put, tkS])
   refine wpAnyH_ready (rs := [4]) (by kernel_rfl) (by simp) ?_
   refine AllReadyH.cons rfl (fun K hK => ?_) ?_
   rotate_left
   ·exact AllReadyH.nil
   go_simp
   have hHn := hHeld
   obtain ⟨sb, sz, hBs⟩ := hHn
   refine (HN.out _).mono ?_
   rintro e wn ⟨rfl, hBn⟩
   refine hK.out _ _ ?_ (fun hHeld => ?_)
   ·(try dsimp only); exact ⟨sb.below hBn sb.lt, sz.below hBn sz.lt, hBs.trans (hBn.mono hBs.size)⟩
   clear hK K
   (try simp only [Act.put, tkS])
   refine tk (i := 5) (v := ?_) rfl ?_ ?_; rotate_left
   ·(intro wq hSw; (try dsimp only at hSw); obtain ⟨sb, sz, hBs⟩ := hSw; have heq := HEQ.out.1; have hgd := HEQ.out.2; go_simp); (try with_reducible rfl)
   (try simp only [Act.put, tkS])
   refine tk (i := 6) (v := ?_) rfl ?_ ?_; rotate_left
   ·(intro wq hSw; (try dsimp only at hSw); obtain ⟨sb, sz, hBs⟩ := hSw; go_simp); (try with_reducible rfl)
   (try simp only [Act.put, tkS])
   refine tk (i := 7) (v := ?_) rfl ?_ ?_; rotate_left
   ·(intro wq hSw; (try dsimp only at hSw); obtain ⟨sb, sz, hBs⟩ := hSw; go_simp); (try with_reducible rfl)
   (try simp only [Act.put, tkS])
   refine tku (i := 8) rfl ?_
   (try simp only [Act.put, tkS])
   refine tku (i := 9) rfl ?_
   (try simp only [Act.put, tkS])
   refine tku (i := 10) rfl ?_
   (try simp only [Act.put, tkS])
   refine tku (i := 11) rfl ?_
   (try simp only [Act.put, tkS])
   refine tku (i := 12) rfl ?_
   (try simp only [Act.put, tkS])
   refine tku (i := 13) rfl ?_
   (try simp only [Act.put, tkS])
   refine tku (i := 14) rfl ?_
   (try simp only [Act.put, tkS])
   refine tku (i := 15) rfl ?_
   (try simp only [Act.put, tkS])
   refine tku (i := 16) rfl ?_
   (try simp only [Act.put, tkS])
   refine tku (i := 17) rfl ?_
   (try simp only [Act.put, tkS])
   refine tku (i := 18) rfl ?_
   (try simp only [Act.put, tkS])
   refine tk (i := 19) (v := ?_) rfl ?_ ?_; rotate_left
   ·(intro wq hSw; (try dsimp only at hSw); obtain ⟨sb, sz, hBs⟩ := hSw; go_simp); (try with_reducible rfl)
   (try simp only [Act.put, tkS])
   refine tk (i := 20) (v := ?_) rfl ?_ ?_; rotate_left
   ·(intro wq hSw; (try dsimp only at hSw); obtain ⟨sb, sz, hBs⟩ := hSw; go_simp); (try with_reducible rfl)
   (try simp only [Act.put, tkS])
   refine wpAnyH_done (by kernel_rfl) ?_ _
   refine NoPanic.normal ?_
   go_wp2
   go_ret
   exact ⟨rfl, hHeld.2.2⟩
 ·have hRf : R = false := by
   rw [HRE.out]
   cases s[a]? with
   | none => rfl
   | some c => simp [hab]
  subst hRf
  have j1 : ((b : Int) == (a : Int) + 1) = false := by rw [beq_eq_false_iff_ne]; omega
  have jw : IntKind.i64.wrap ((a : Int) + 1) = (a : Int) + 1 := by simp [IntKind.wrap, IntKind.signed, IntKind.bits]; omega
  have j2 : ¬ (b : Int) = (a : Int) + 1 := by omega
  obtain rfl : Z = noC := by rw [HZE.out]; simp
  go_wp2_with fail
  refine wp_region_noPanic ?_
  refine wp_region_held_drew (S := fun w' => Blk w' w.heap.size (sW F) 54 ∧ Blk w' w3.heap.size (cH noC) 27 ∧ Below w.heap.size w w') (by kernel_rfl) ?_ (fun hHeld => ?_)
  ·(try dsimp only); exact ⟨H4.out.2.1.drew, H4.out.1.drew, H4.out.2.2.drew⟩
  refine tk (i := 0) (v := ?_) rfl ?_ ?_; rotate_left
  ·(intro wq hSw; (try dsimp only at hSw); obtain ⟨sb, sz, hBs⟩ := hSw; go_simp); (try with_reducible rfl)
  (try simp only [Act.put, tkS])
  refine tk (i := 1) (v := ?_) rfl ?_ ?_; rotate_left
  ·(intro wq hSw; (try dsimp only at hSw); obtain ⟨sb, sz, hBs⟩ := hSw; go_simp); (try with_reducible rfl)
  (try simp only [Act.put, tkS])
  refine tk (i := 2) (v := ?_) rfl ?_ ?_; rotate_left
  ·(intro wq hSw; (try dsimp only at hSw); obtain ⟨sb, sz, hBs⟩ := hSw; go_simp); (try with_reducible rfl)
  (try simp only [Act.put, tkS])
  refine tk (i := 3) (v := ?_) rfl ?_ ?_; rotate_left
  ·(intro wq hSw; (try dsimp only at hSw); obtain ⟨sb, sz, hBs⟩ := hSw; go_simp); (try with_reducible rfl)
  (try simp only [Act.put, tkS])
  refine tk (i := 4) (v := ?_) rfl ?_ ?_; rotate_left
  ·(intro wq hSw; (try dsimp only at hSw); obtain ⟨sb, sz, hBs⟩ := hSw; go_simp); (try with_reducible rfl)
  (try simp only [Act.put, tkS])
  refine tk (i := 5) (v := ?_) rfl ?_ ?_; rotate_left
  ·(intro wq hSw; (try dsimp only at hSw); obtain ⟨sb, sz, hBs⟩ := hSw; go_simp); (try with_reducible rfl)
  (try simp only [Act.put, tkS])
  refine tku (i := 6) rfl ?_
  (try simp only [Act.put, tkS])
  refine tku (i := 7) rfl ?_
  (try simp only [Act.put, tkS])
  refine tku (i := 8) rfl ?_
  (try simp only [Act.put, tkS])
  refine tku (i := 9) rfl ?_
  (try simp only [Act.put, tkS])
  refine tku (i := 10) rfl ?_
  (try simp only [Act.put, tkS])
  refine tk (i := 11) (v := ?_) rfl ?_ ?_; rotate_left
  ·(intro wq hSw; (try dsimp only at hSw); obtain ⟨sb, sz, hBs⟩ := hSw; go_simp); (try with_reducible rfl)
  (try simp only [Act.put, tkS])
  refine tk (i := 12) (v := ?_) rfl ?_ ?_; rotate_left
  ·(intro wq hSw; (try dsimp only at hSw); obtain ⟨sb, sz, hBs⟩ := hSw; go_simp); (try with_reducible rfl)
  (try simp only [Act.put, tkS])
  refine wpAnyH_done (by kernel_rfl) ?_ _
  refine NoPanic.normal ?_
  go_wp2_with fail
  refine wp_region_noPanic ?_
  refine wp_region_held_drew (S := fun w' => Blk w' w.heap.size (sW F) 54 ∧ Blk w' w3.heap.size (cH noC) 27 ∧ Below w.heap.size w w') (by kernel_rfl) ?_ (fun hHeld => ?_)
  ·(try dsimp only); exact ⟨hHeld.1.drew, hHeld.2.1.drew, hHeld.2.2.drew⟩
  refine tk (i := 0) (v := ?_) rfl ?_ ?_; rotate_left
  ·(intro wq hSw; (try dsimp only at hSw); obtain ⟨sb, sz, hBs⟩ := hSw; go_simp); (try with_reducible rfl)
  (try simp only [Act.put, tkS])
  refine tk (i := 1) (v := ?_) rfl ?_ ?_; rotate_left
  ·(intro wq hSw; (try dsimp only at hSw); obtain ⟨sb, sz, hBs⟩ := hSw; go_simp); (try with_reducible rfl)
  (try simp only [Act.put, tkS])
  refine tk (i := 2) (v := ?_) rfl ?_ ?_; rotate_left
  ·(intro wq hSw; (try dsimp only at hSw); obtain ⟨sb, sz, hBs⟩ := hSw; go_simp); (try with_reducible rfl)
  (try simp only [Act.put, tkS])
  refine tk (i := 3) (v := ?_) rfl ?_ ?_; rotate_left
  ·(intro wq hSw; (try dsimp only at hSw); obtain ⟨sb, sz, hBs⟩ := hSw; obtain ⟨e0, e1, e2, e3, e4, e5, e6, e7, e8, e9⟩ := capBlk.ten sz; go_simp); (try with_reducible rfl)
  (try simp only [Act.put, tkS])
  refine wpAnyH_ready (rs := [4]) (by kernel_rfl) (by simp) ?_
  refine AllReadyH.cons rfl (fun K hK => ?_) ?_
  rotate_left
  ·exact AllReadyH.nil
  go_simp
  have hHn := hHeld
  obtain ⟨sb, sz, hBs⟩ := hHn
  refine (HN.out _).mono ?_
  rintro e wn ⟨rfl, hBn⟩
  refine hK.out _ _ ?_ (fun hHeld => ?_)
  ·(try dsimp only); exact ⟨sb.below hBn sb.lt, sz.below hBn sz.lt, hBs.trans (hBn.mono hBs.size)⟩
  clear hK K
  (try simp only [Act.put, tkS])
  refine tk (i := 5) (v := ?_) rfl ?_ ?_; rotate_left
  ·(intro wq hSw; (try dsimp only at hSw); obtain ⟨sb, sz, hBs⟩ := hSw; have heq := HEQ.out.1; have hgd := HEQ.out.2; go_simp); (try with_reducible rfl)
  (try simp only [Act.put, tkS])
  refine tk (i := 6) (v := ?_) rfl ?_ ?_; rotate_left
  ·(intro wq hSw; (try dsimp only at hSw); obtain ⟨sb, sz, hBs⟩ := hSw; go_simp); (try with_reducible rfl)
  (try simp only [Act.put, tkS])
  refine tk (i := 7) (v := ?_) rfl ?_ ?_; rotate_left
  ·(intro wq hSw; (try dsimp only at hSw); obtain ⟨sb, sz, hBs⟩ := hSw; go_simp); (try with_reducible rfl)
  (try simp only [Act.put, tkS])
  refine tku (i := 8) rfl ?_
  (try simp only [Act.put, tkS])
  refine tku (i := 9) rfl ?_
  (try simp only [Act.put, tkS])
  refine tku (i := 10) rfl ?_
  (try simp only [Act.put, tkS])
  refine tku (i := 11) rfl ?_
  (try simp only [Act.put, tkS])
  refine tku (i := 12) rfl ?_
  (try simp only [Act.put, tkS])
  refine tku (i := 13) rfl ?_
  (try simp only [Act.put, tkS])
  refine tku (i := 14) rfl ?_
  (try simp only [Act.put, tkS])
  refine tku (i := 15) rfl ?_
  (try simp only [Act.put, tkS])
  refine tku (i := 16) rfl ?_
  (try simp only [Act.put, tkS])
  refine tku (i := 17) rfl ?_
  (try simp only [Act.put, tkS])
  refine tku (i := 18) rfl ?_
  (try simp only [Act.put, tkS])
  refine tk (i := 19) (v := ?_) rfl ?_ ?_; rotate_left
  ·(intro wq hSw; (try dsimp only at hSw); obtain ⟨sb, sz, hBs⟩ := hSw; go_simp); (try with_reducible rfl)
  (try simp only [Act.put, tkS])
  refine tk (i := 20) (v := ?_) rfl ?_ ?_; rotate_left
  ·(intro wq hSw; (try dsimp only at hSw); obtain ⟨sb, sz, hBs⟩ := hSw; go_simp); (try with_reducible rfl)
  (try simp only [Act.put, tkS])
  refine wpAnyH_done (by kernel_rfl) ?_ _
  refine NoPanic.normal ?_
  go_wp2
  go_ret
  exact ⟨rfl, hHeld.2.2⟩
theorem matchOneB (F : Nat → Bool) (t : ByteArray) (i j : Nat) (w : World) (hs : t.size ≤ reachBytes) (hi : i < 256) (hj : j < 256) (hf : Fit4 w) :
  Calls Tryz.prog 7 #[sv F, .string t, .int .u8 (i : Int), .int .u8 (j : Int)] w fun e w' => e = .returned (.bool true) ∧ Below w.heap.size w w' := by
 obtain ⟨s, rfl⟩ : ∃ s : List UInt8, t = ⟨s.toArray⟩ := ⟨t.data.toList, by simp⟩
 have hsh : ∀ W, Below w.heap.size w W → Calls Tryz.prog 10 #[] W fun e w' => e = .returned (.bool true) ∧ Below W.heap.size W w' := fun W hB => shown6_c W (hf.below hB) (hf.below hB).f.fit.tab (hf.below hB).f.fit.pos
 by_cases hl : s.length ≤ 40
 ·by_cases hF : cnt F 256 = 0
  ·have HSZ : Hid (∀ W, Calls Tryz.prog 28 #[.agg (sW F)] W fun e w' => e = .returned (.int .i64 0) ∧ Below W.heap.size W w') := Lib.hid (fun W => by have := size_c F W; rw [hF] at this; exact this)
   have HSH := Lib.hid hsh
   have hli : ¬ (40 : Int) < (s.length : Int) := by omega
   clear hf hs hF hsh
   unfold sv
   go_enter Tryz.func7, Tryz.ntmps7
   go_wp2_with fail
   refine (HSZ.out _).mono ?_
   rintro e w1 ⟨rfl, hB1⟩
   have hB1' : Below w.heap.size w w1 := ((Below.refl _ w).alloc (Nat.le_refl _) _).trans (hB1.mono (by simp))
   have HB1 := Lib.hid hB1'
   clear hB1 hB1'
   go_wp2_with fail
   refine (HSH.out _ HB1.out).mono ?_
   rintro e w2 ⟨rfl, hB2⟩
   have HB2 := Lib.hid (HB1.out.trans (hB2.mono HB1.out.size))
   clear hB2
   go_wp2
   go_ret
   exact ⟨rfl, HB2.out⟩
  ·exact one_go F s i j _ _ w hl hF hi hj rfl rfl hf.f.fit.tab hf.f.fit.pos hsh
 ·have HSH := Lib.hid hsh
  have hli : (40 : Int) < (s.length : Int) := by omega
  clear hf hs hsh
  unfold sv
  go_enter Tryz.func7, Tryz.ntmps7
  have HB0 : Hid (Below w.heap.size w (w.alloc (.cells (sW F) 54))) := Lib.hid ((Below.refl _ w).alloc (Nat.le_refl _) _)
  go_wp2_with fail
  refine (HSH.out _ HB0.out).mono ?_
  rintro e w2 ⟨rfl, hB2⟩
  have HB2 := Lib.hid (HB0.out.trans (hB2.mono (by simp)))
  clear hB2
  go_wp2
  go_ret
  exact ⟨rfl, HB2.out⟩
end Go.Proofs.YtibkllialokdeaaGreatDoor
