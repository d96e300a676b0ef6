/- What a set shows: what is only told, what is left, one byte: the walks. -/
import Derived.Test.YtdjcgjkbecncaaaGreatDoorJBrJ
import Derived.Test.YtdjcgjkbecncaaaGreatDoorJRxTd
import Derived.Test.YtdjcgjkbecncaaaGreatDoorJBrKe
import Derived.Lib.AtoiAllCases
import Derived.Lib.SmallJoins
import Derived.Deep.RegionHeld3
set_option linter.unusedVariables false
set_option linter.unusedSimpArgs false
set_option maxRecDepth 100000
set_option maxHeartbeats 40000000
namespace Go.Proofs.YtdjcgjkbecncaaaGreatDoor
open Go.RowKit
theorem only_c (G : Nat → Bool) (c : Nat) (hc : c < 256) (t : List UInt8) (w : World) :
  Calls Tryz.prog 88 #[sv G, .int .u8 (c : Int), .string ⟨t.toArray⟩] w fun e w' => e = .returned (.string ⟨(if G c then t else []).toArray⟩) ∧ Below w.heap.size w w' := by
 have HH := Lib.hid fun w => has_c G c hc w
 have b0 : Below w.heap.size w (w.alloc (.cells #[.int .u64 (wd G 0), .int .u64 (wd G 1), .int .u64 (wd G 2), .int .u64 (wd G 3)] 24)) := (Below.refl _ w).alloc (Nat.le_refl _) _
 have B0 := Lib.hid b0
 clear b0
 unfold sv at HH ⊢
 cases hg : G c with
 | false =>
  rw [hg] at HH
  go_enter Tryz.func88, Tryz.ntmps88
  go_wp2_with fail
  refine (HH.out _).mono ?_
  rintro e w1 ⟨rfl, hB⟩
  have HB := Lib.hid (B0.out.trans (hB.mono B0.out.size))
  clear hB HH B0
  go_wp2
  go_ret
  exact ⟨rfl, HB.out⟩
 | true =>
  rw [hg] at HH
  go_enter Tryz.func88, Tryz.ntmps88
  go_wp2_with fail
  refine (HH.out _).mono ?_
  rintro e w1 ⟨rfl, hB⟩
  have HB := Lib.hid (B0.out.trans (hB.mono B0.out.size))
  clear hB HH B0
  go_wp2
  go_ret
  exact ⟨rfl, HB.out⟩
theorem less_c (F G : Nat → Bool) (w : World) :
  Calls Tryz.prog 90 #[sv F, sv G] w fun e w' => e = .returned (sv fun i => F i && !G i) ∧ Below w.heap.size w w' := by
 obtain ⟨w0, hw0⟩ : ∃ w0, w0 = (((w.alloc (.cells #[.int .u64 (wd F 0), .int .u64 (wd F 1), .int .u64 (wd F 2), .int .u64 (wd F 3)] 24)).alloc (.cells #[.int .u64 (wd G 0), .int .u64 (wd G 1), .int .u64 (wd G 2), .int .u64 (wd G 3)] 24)).alloc (.cells #[.int .u64 0, .int .u64 0, .int .u64 0, .int .u64 0] 24)) := ⟨_, rfl⟩
 have a0 := ((Four.new w 24 (.int .u64 (wd F 0)) (.int .u64 (wd F 1)) (.int .u64 (wd F 2)) (.int .u64 (wd F 3))).alloc (.cells #[.int .u64 (wd G 0), .int .u64 (wd G 1), .int .u64 (wd G 2), .int .u64 (wd G 3)] 24)).alloc (.cells #[.int .u64 0, .int .u64 0, .int .u64 0, .int .u64 0] 24)
 have g0 := (Four.new (w.alloc (.cells #[.int .u64 (wd F 0), .int .u64 (wd F 1), .int .u64 (wd F 2), .int .u64 (wd F 3)] 24)) 24 (.int .u64 (wd G 0)) (.int .u64 (wd G 1)) (.int .u64 (wd G 2)) (.int .u64 (wd G 3))).alloc (.cells #[.int .u64 0, .int .u64 0, .int .u64 0, .int .u64 0] 24)
 have r0 := Four.new ((w.alloc (.cells #[.int .u64 (wd F 0), .int .u64 (wd F 1), .int .u64 (wd F 2), .int .u64 (wd F 3)] 24)).alloc (.cells #[.int .u64 (wd G 0), .int .u64 (wd G 1), .int .u64 (wd G 2), .int .u64 (wd G 3)] 24)) 24 (.int .u64 0) (.int .u64 0) (.int .u64 0) (.int .u64 0)
 rw [World.size_alloc] at g0
 rw [World.size_alloc, World.size_alloc] at r0
 have b0 : Below w.heap.size w (((w.alloc (.cells #[.int .u64 (wd F 0), .int .u64 (wd F 1), .int .u64 (wd F 2), .int .u64 (wd F 3)] 24)).alloc (.cells #[.int .u64 (wd G 0), .int .u64 (wd G 1), .int .u64 (wd G 2), .int .u64 (wd G 3)] 24)).alloc (.cells #[.int .u64 0, .int .u64 0, .int .u64 0, .int .u64 0] 24)) := (((Below.refl _ w).alloc (Nat.le_refl _) _).alloc (by simp) _).alloc (by simp; omega) _
 rw [← hw0] at a0 g0 r0 b0
 obtain ⟨N, hN⟩ : ∃ N : Nat → Bool, N = fun i => !F i := ⟨_, rfl⟩
 obtain ⟨O, hO⟩ : ∃ O : Nat → Bool, O = fun i => N i || G i := ⟨_, rfl⟩
 obtain ⟨R, hR⟩ : ∃ R : Nat → Bool, R = fun i => !O i := ⟨_, rfl⟩
 have hfin : sv (fun i => F i && !G i) = sv R := sv_congr fun i _ => by rw [hR, hO, hN]; simp
 rw [hfin]
 have hn1 := fun w => not_c F w
 have hor := fun b cap w hb => or2_c N G b cap w 24 hb
 have hn2 := fun w => not_c O w
 simp only [← hN] at hn1
 simp only [← hO] at hor
 simp only [← hR] at hn2
 have H1 := Lib.hid hn1
 have H2 := Lib.hid hor
 have H3 := Lib.hid hn2
 have HW := Lib.hid hw0
 have A0 := Lib.hid a0
 have G0 := Lib.hid g0
 have R0 := Lib.hid r0
 have B0 := Lib.hid b0
 clear hfin hN hO hR hn1 hor hn2 hw0 a0 g0 r0 b0
 unfold sv at H1 H2 H3 ⊢
 go_enter Tryz.func90, Tryz.ntmps90
 go_wp2_with fail
 rw [← HW.out]
 clear HW
 refine wp_region_held_drew (S := fun w' => FourS w' w.heap.size F ∧ FourS w' (w.heap.size + 1) G) (by kernel_rfl) ⟨A0.out.drew, G0.out.drew⟩ (fun hHeld => ?_)
 refine wpAnyH_take (i := 0) (v := ?_) rfl (by kernel_rfl) (by kernel_rfl) (by kernel_rfl) (fun _ _ _ h => h) (Or.inl ⟨by kernel_rfl, ?_⟩) (by assumption) ?_
 rotate_left
 ·(intro w hSw; (try dsimp only at hSw); have z0 := hSw.1.c0; have z1 := hSw.1.c1; have z2 := hSw.1.c2; have z3 := hSw.1.c3; go_simp); (try with_reducible rfl)
 try simp only [Act.put, laS]
 refine wpAnyH_take (i := 2) (v := ?_) rfl (by kernel_rfl) (by kernel_rfl) (by kernel_rfl) (fun _ _ _ h => h) (Or.inl ⟨by kernel_rfl, ?_⟩) (by assumption) ?_
 rotate_left
 ·(intro w hSw; (try dsimp only at hSw); have z0 := hSw.2.c0; have z1 := hSw.2.c1; have z2 := hSw.2.c2; have z3 := hSw.2.c3; go_simp); (try with_reducible rfl)
 try simp only [Act.put, laS]
 refine wpAnyH_ready (rs := [1]) (by kernel_rfl) (by simp) ?_
 refine AllReadyH.cons rfl (fun K hK => ?_) AllReadyH.nil
 go_simp
 refine (H1.out _).mono ?_
 rintro e w1 ⟨rfl, hB1⟩
 have b01 : Below w0.heap.size w0 w1 := ((Below.refl _ w0).drew).trans hB1
 refine hK.out _ _ ?_ (fun hHeld => ?_)
 ·exact ⟨A0.out.below b01 A0.out.lt, G0.out.below b01 G0.out.lt⟩
 clear hK K hB1
 try simp only [Act.put, laS]
 have b02 := b01.alloc b01.size (.cells #[.int .u64 (wd N 0), .int .u64 (wd N 1), .int .u64 (wd N 2), .int .u64 (wd N 3), .int .u64 (wd G 0), .int .u64 (wd G 1), .int .u64 (wd G 2), .int .u64 (wd G 3)] 24)
 have hnew : (w1.alloc (.cells #[.int .u64 (wd N 0), .int .u64 (wd N 1), .int .u64 (wd N 2), .int .u64 (wd N 3), .int .u64 (wd G 0), .int .u64 (wd G 1), .int .u64 (wd G 2), .int .u64 (wd G 3)] 24)).heap[w1.heap.size]? = some (.cells #[.int .u64 (wd N 0), .int .u64 (wd N 1), .int .u64 (wd N 2), .int .u64 (wd N 3), .int .u64 (wd G 0), .int .u64 (wd G 1), .int .u64 (wd G 2), .int .u64 (wd G 3)] 24 (0, 0)) := heap_new w1 _
 have h2 := H2.out w1.heap.size 2 _ hnew
 have H2' := Lib.hid h2
 clear h2 hnew H2
 refine wpAnyH_ready (rs := [3]) (by kernel_rfl) (by simp) ?_
 refine AllReadyH.cons rfl (fun K hK => ?_) AllReadyH.nil
 go_simp
 refine hK.out _ _ ?_ (fun hHeld => ?_)
 ·exact ⟨A0.out.below b02 A0.out.lt, G0.out.below b02 G0.out.lt⟩
 clear hK K
 try simp only [Act.put, laS]
 refine wpAnyH_ready (rs := [4]) (by kernel_rfl) (by simp) ?_
 refine AllReadyH.cons rfl (fun K hK => ?_) AllReadyH.nil
 go_simp
 refine H2'.out.mono ?_
 rintro e w2 ⟨rfl, hB2⟩
 have b03 := b02.trans (hB2.mono b02.size)
 refine hK.out _ _ ?_ (fun hHeld => ?_)
 ·exact ⟨A0.out.below b03 A0.out.lt, G0.out.below b03 G0.out.lt⟩
 clear hK K hB2 b02 H2'
 try simp only [Act.put, laS]
 refine wpAnyH_ready (rs := [5]) (by kernel_rfl) (by simp) ?_
 refine AllReadyH.cons rfl (fun K hK => ?_) AllReadyH.nil
 go_simp
 refine (H3.out _).mono ?_
 rintro e w3 ⟨rfl, hB3⟩
 have b04 := b03.trans (hB3.mono b03.size)
 refine hK.out _ _ ?_ (fun hHeld => ?_)
 ·exact ⟨A0.out.below b04 A0.out.lt, G0.out.below b04 G0.out.lt⟩
 clear hK K hB3 b03 b01
 try simp only [Act.put, laS]
 have r4 := R0.out.below b04 R0.out.lt
 have r4c0 := r4.c0
 have r4c1 := r4.c1
 have r4c2 := r4.c2
 have r4c3 := r4.c3
 have r4f0 := r4.fz 0
 have r4f1 := r4.fz 1
 have r4f2 := r4.fz 2
 have r4f3 := r4.fz 3
 refine wpAnyH_ready (rs := [6]) (by kernel_rfl) (by simp) ?_
 refine AllReadyH.cons rfl (fun K hK => ?_) AllReadyH.nil
 go_simp
 refine hK.out _ _ ?_ (fun hHeld => ?_)
 ·exact ⟨(A0.out.below b04 A0.out.lt).set4_other (by omega) _ _ _ _, (G0.out.below b04 G0.out.lt).set4_other (by omega) _ _ _ _⟩
 clear hK K
 try simp only [Act.put, laS]
 refine wpAnyH_done (by kernel_rfl) ?_ _
 have q := FourS.set r4 R
 have qc0 := q.c0
 have qc1 := q.c1
 have qc2 := q.c2
 have qc3 := q.c3
 have hbf := Below.set4 (B0.out.trans (b04.mono B0.out.size)) (b := w.heap.size + 1 + 1) (by omega) (.int .u64 (wd R 0)) (.int .u64 (wd R 1)) (.int .u64 (wd R 2)) (.int .u64 (wd R 3))
 go_wp2
 refine bodyPost_ret (v := sv R) (by simp [results, Tryz.results90, go_sem, qc0, qc1, qc2, qc3, sv]) rfl ⟨rfl, hbf⟩
def showOneP (c : UInt8) : List UInt8 := if c = 10 then [92, 110] else if c ∈ ([46, 91, 92, 42, 94, 36] : List UInt8) then [92, c] else [c]
theorem quoted_one : ∀ n : Nat, n < 256 → (decide (0 ≤ Lib.indexByte [46, 91, 92, 42, 94, 36] (UInt8.ofNat n)) = decide (UInt8.ofNat n ∈ ([46, 91, 92, 42, 94, 36] : List UInt8))) := by decide +kernel
theorem showone_c (c : UInt8) (w : World) :
  Calls Tryz.prog 50 #[.string ⟨#[c]⟩] w fun e w' => e = .returned (.string ⟨(showOneP c).toArray⟩) ∧ Below w.heap.size w w' := by
 have hcl := c.toNat_lt
 by_cases h10 : c = 10
 ·subst h10
  go_enter Tryz.func50, Tryz.ntmps50
  go_wp2
  go_ret
  exact ⟨rfl, Below.refl _ _⟩
 ·have hq : (c == 10) = false := by simpa using h10
  have hq2 : ¬ c = 10 := h10
  have q := quoted_one c.toNat (by omega)
  rw [show UInt8.ofNat c.toNat = c by simp] at q
  have HC := Lib.hid fun w => Tryz.strings_Contains_one ⟨#[46, 91, 92, 42, 94, 36]⟩ c w
  have e1 : (⟨#[46, 91, 92, 42, 94, 36]⟩ : ByteArray).data.toList = [46, 91, 92, 42, 94, 36] := rfl
  rw [e1, q] at HC
  clear e1 q
  by_cases hin : c ∈ ([46, 91, 92, 42, 94, 36] : List UInt8)
  ·rw [decide_eq_true hin] at HC
   have hr : showOneP c = [92, c] := by unfold showOneP; rw [if_neg h10, if_pos hin]
   rw [hr]
   clear hr hin
   go_enter Tryz.func50, Tryz.ntmps50
   go_wp2_with fail
   refine (HC.out _).mono ?_
   rintro e w1 ⟨rfl, rfl⟩
   go_wp2
   go_ret
   exact ⟨rfl, Below.refl _ _⟩
  ·rw [decide_eq_false hin] at HC
   have hr : showOneP c = [c] := by unfold showOneP; rw [if_neg h10, if_neg hin]
   rw [hr]
   clear hr hin
   go_enter Tryz.func50, Tryz.ntmps50
   go_wp2_with fail
   refine (HC.out _).mono ?_
   rintro e w1 ⟨rfl, rfl⟩
   go_wp2
   go_ret
   exact ⟨rfl, Below.refl _ _⟩
end Go.Proofs.YtdjcgjkbecncaaaGreatDoor
namespace Go.Proofs.YtdjcgjkbecncaaaGreatDoor
open Go.RowKit
def ROut {α : Type} (w : World) (b : Nat) (s : List UInt8) (v : Value) (val : α → Value) (res : Except Er (α × BRd)) (e : Ending) (w' : World) : Prop :=
 match res with
 | .ok (a, q) => e = .returned (val a) ∧ ∃ v', RX w' b s q v' ∧ RK w b v w' v'
 | .error (z, a) => e = Pan z (a : Int) ∧ ∃ v', RK w b v w' v'
theorem ROut.yes {α : Type} {w w' : World} {b : Nat} {s : List UInt8} {v v' : Value} {val : α → Value} {res : Except Er (α × BRd)} {a : α} {q : BRd} (hr : res = .ok (a, q)) (hx : RX w' b s q v') (hk : RK w b v w' v') : ROut w b s v val res (.returned (val a)) w' := by
 subst hr; exact ⟨rfl, v', hx, hk⟩
theorem ROut.no {α : Type} {w w' : World} {b : Nat} {s : List UInt8} {v v' : Value} {val : α → Value} {res : Except Er (α × BRd)} {z : Int} {a : Nat} (hr : res = .error (z, a)) (hk : RK w b v w' v') : ROut w b s v val res (Pan z (a : Int)) w' := by
 subst hr; exact ⟨rfl, v', hk⟩
theorem ROut.trans {α : Type} {w w1 w' : World} {b : Nat} {s : List UInt8} {v v1 : Value} {val : α → Value} {res : Except Er (α × BRd)} {e : Ending} (hk : RK w b v w1 v1) (h : ROut w1 b s v1 val res e w') : ROut w b s v val res e w' := by
 unfold ROut at *
 cases res with
 | error q => obtain ⟨z, a⟩ := q; obtain ⟨he, v', h'⟩ := h; exact ⟨he, v', hk.trans h'⟩
 | ok q => obtain ⟨a, q⟩ := q; obtain ⟨he, v', hx, h'⟩ := h; exact ⟨he, v', hx, hk.trans h'⟩
theorem RX.row_but {w : World} {b : Nat} {s : List UInt8} {r : BRd} {v : Value} (h : RX w b s r v) {j : Nat} (u : Value) (r' : BRd) (hr : (rcells s r v).setIfInBounds j u = rcells s r' v) (hl : r'.l = r.l) (hp : r'.p ≤ s.length) : RX (w.setCell ⟨b, j, none⟩ u) b s r' v := by
 have gr0 : w.grownBy w (some b) := ⟨rfl, rfl, rfl, Nat.le_refl _, fun _ _ _ => rfl⟩
 refine ⟨?_, ?_, h.ob, hp, h.s, by rw [hl]; exact h.l⟩
 ·rw [heap_setCell_same _ b j _ _ _ h.heap, hr]
 ·rw [hl]; exact h.row.kept (grown_setc gr0 j u) (.inr h.ob)
theorem RK.set {w w1 : World} {b : Nat} {v v1 : Value} (h : RK w b v w1 v1) (j : Nat) (u : Value) : RK w b v (w1.setCell ⟨b, j, none⟩ u) v1 := ⟨h.k.setCell (p := ⟨b, j, none⟩) (.inl rfl) u, h.v⟩
section
variable {b : Nat} {s : List UInt8} {r : BRd} {v : Value}
theorem putbytes_c (G : Nat → Bool) (w : World) (h : RX w b s r v) :
  Calls Tryz.prog 184 #[.pointer (some ⟨b, 0, none⟩), sv G] w fun e w' => e = .returned (.int .i64 (((r.put (byNd G)).l.length : Int) - 1)) ∧ ∃ v', RX w' b s (r.put (byNd G)) v' ∧ RK w b v w' v' := by
 have hbx : Below w.heap.size w (w.alloc (.cells #[.int .u64 (wd G 0), .int .u64 (wd G 1), .int .u64 (wd G 2), .int .u64 (wd G 3)] 24)) := (Below.refl _ w).alloc (Nat.le_refl _) _
 have hp := rput_c (byNd G) _ (h.below hbx)
 have HK := Lib.hid (RK.below (b := b) (v := v) hbx)
 unfold byNd at hp ⊢
 simp only at hp
 have HP := Lib.hid hp
 clear hp h hbx
 unfold sv
 go_enter Tryz.func184, Tryz.ntmps184
 go_wp2_with fail
 refine HP.out.mono ?_
 rintro e w2 ⟨rfl, v', hx, hk⟩
 have HX := Lib.hid hx
 have HK2 := Lib.hid (HK.out.trans hk)
 clear hx hk HP HK
 go_wp2
 go_ret
 exact ⟨rfl, v', HX.out, HK2.out⟩
theorem ref_c (n a : Nat) (hn : n ≤ 9) (w : World) (h : RX w b s r v) :
  Calls Tryz.prog 192 #[.pointer (some ⟨b, 0, none⟩), .int .i64 (n : Int), .int .i64 (a : Int)] w (ROut w b s v (fun _ : Unit => .tuple #[]) (if !r.en n then .error (44, a) else .ok ((), r.put ⟨8, 0, 0, 0, 0, 0, 0, 0, 0, (n : Int)⟩))) := by
 have hc : w.cell? ⟨b, 4 + n, none⟩ = some (.bool (r.en n)) := by
  rw [h.cell]
  rcases (by omega : n = 0 ∨ n = 1 ∨ n = 2 ∨ n = 3 ∨ n = 4 ∨ n = 5 ∨ n = 6 ∨ n = 7 ∨ n = 8 ∨ n = 9) with rfl | rfl | rfl | rfl | rfl | rfl | rfl | rfl | rfl | rfl <;> rfl
 have hi : (0 : Int) ≤ (n : Int) ∧ (n : Int) < 10 := by omega
 have hp := rput_c ⟨8, 0, 0, 0, 0, 0, 0, 0, 0, (n : Int)⟩ w h
 simp only at hp
 have HP := Lib.hid hp
 have HW := Lib.hid (wrong_c 44 (a : Int) w)
 have HR0 := Lib.hid (RK.refl (w := w) (b := b) (v := v))
 cases he : r.en n with
 | false =>
  rw [he] at hc
  clear hp HP h he
  go_enter Tryz.func192, Tryz.ntmps192
  go_wp2_with fail
  refine HW.out.mono ?_
  rintro e w2 ⟨rfl, rfl⟩
  unfold Pan
  go_wp2
  exact ⟨rfl, ROut.no rfl HR0.out⟩
 | true =>
  rw [he] at hc
  clear hp h he HW
  go_enter Tryz.func192, Tryz.ntmps192
  go_wp2_with fail
  refine HP.out.mono ?_
  rintro e w2 ⟨rfl, v', hx, hk⟩
  have HX := Lib.hid hx
  have HK := Lib.hid hk
  clear hx hk HP
  go_wp2
  go_end0
  exact ROut.yes (α := Unit) (a := ()) rfl HX.out HK.out
end
end Go.Proofs.YtdjcgjkbecncaaaGreatDoor
namespace Go.Proofs.YtdjcgjkbecncaaaGreatDoor
open Go.RowKit
theorem slice_at (s : List UInt8) (a : Nat) (ha : a ≤ s.length) (W : World) : (Instr.slice 9 (.string ⟨s.toArray⟩) (some (.int .i64 (a : Int))) none none).run Tryz.prog W = .ok (.string ⟨(s.drop a).toArray⟩) W := by
 have hsz : (⟨s.toArray⟩ : ByteArray).size = s.length := by simp [ByteArray.size]
 have e : (⟨s.toArray⟩ : ByteArray).extract a s.length = ⟨(s.drop a).toArray⟩ := by rw [← drop_arr, hsz]
 rw [run_slice_string_from_if (P := Tryz.prog) W 9 _ .i64 (a : Int) Tryz.underlying9, if_pos ⟨by omega, by rw [hsz]; omega⟩, hsz]
 rw [show ((a : Int)).toNat = a by omega, e]
section
variable {b : Nat} {s : List UInt8} {r : BRd} {v : Value}
theorem bracketr_c (a : Nat) (ha : a ≤ s.length) (w : World) (h : RX w b s r v) (hm : MaxL w) :
  Calls Tryz.prog 185 #[.pointer (some ⟨b, 0, none⟩), .int .i64 (a : Int)] w (ROut w b s v (fun _ : Unit => .tuple #[]) (match brkP (s.drop a) with
   | none => .error (42, a)
   | some (G, n) => .ok ((), (r.to (a + n)).put (byNd G)))) := by
 have hs := h.s
 have hlt := h.lt
 have d0 : w.cell? ⟨b, 0, none⟩ = some (.string ⟨s.toArray⟩) := (h.cell 0).trans rfl
 have hsl := fun W => slice_at s a ha W
 have hB := bracket_c (s.drop a) (by rw [List.length_drop]; omega) w hm
 cases hq : brkP (s.drop a) with
 | none =>
  rw [hq] at hB
  have HB := Lib.hid hB
  have HW := Lib.hid fun w => wrong_c 42 (a : Int) w
  clear hB hq h hm
  go_enter Tryz.func185, Tryz.ntmps185
  go_wp2_with fail
  refine HB.out.mono ?_
  rintro e w1 ⟨rfl, hB1⟩
  have HK := Lib.hid (RK.below (b := b) (v := v) (hB1.alloc hB1.size (.cells #[.int .u64 0, .int .u64 0, .int .u64 0, .int .u64 0] 24)))
  rw [sv_none]
  go_wp2_with fail
  refine (HW.out _).mono ?_
  rintro e w2 ⟨rfl, rfl⟩
  unfold Pan
  go_wp2
  exact ⟨rfl, ROut.no rfl HK.out⟩
 | some q =>
  obtain ⟨G, n⟩ := q
  rw [hq] at hB
  have hle := brkP_le hq
  simp only [List.length_drop] at hle
  have hn : a + n ≤ s.length := by omega
  have HB := Lib.hid hB
  have HPB := Lib.hid fun w1 h1 => putbytes_c (r := r.to (a + n)) (v := v) (b := b) (s := s) G w1 h1
  have ew : IntKind.i64.wrap ((a : Int) + (n : Int)) = (a : Int) + (n : Int) := by simp [IntKind.wrap, IntKind.signed, IntKind.bits]; omega
  have H := Lib.hid h
  clear hB hq h hm
  go_enter Tryz.func185, Tryz.ntmps185
  go_wp2_with fail
  refine HB.out.mono ?_
  rintro e w1 ⟨rfl, hB1⟩
  have h1 := H.out.below hB1
  have h1l := h1.lt
  have f1 := h1.fz 1
  have c1 : w1.cell? ⟨b, 1, none⟩ = some (.int .i64 (r.p : Int)) := (h1.cell 1).trans rfl
  have v1 := Four.new w1 24 (.int .u64 (wd G 0)) (.int .u64 (wd G 1)) (.int .u64 (wd G 2)) (.int .u64 (wd G 3))
  have h2 := h1.row_but (j := 1) (.int .i64 ((a : Int) + (n : Int))) (r.to (a + n)) (by rw [← Int.natCast_add]; rfl) rfl hn
  have h3 := h2.below ((Below.refl _ _).alloc (Nat.le_refl _) (.cells #[.int .u64 (wd G 0), .int .u64 (wd G 1), .int .u64 (wd G 2), .int .u64 (wd G 3)] 24))
  have k2 := (RK.below (b := b) (v := v) hB1).set 1 (.int .i64 ((a : Int) + (n : Int)))
  have k3 := k2.trans (RK.below (b := b) (v := v) ((Below.refl _ _).alloc (Nat.le_refl _) (.cells #[.int .u64 (wd G 0), .int .u64 (wd G 1), .int .u64 (wd G 2), .int .u64 (wd G 3)] 24)))
  have H3 := Lib.hid h3
  have K3 := Lib.hid k3
  clear h1 v1 h2 h3 k2 k3 HB H hB1
  simp only [sv] at HPB ⊢
  go_wp2_with fail
  refine (HPB.out _ H3.out).mono ?_
  rintro e w4 ⟨rfl, v', hx, hk⟩
  have HX := Lib.hid hx
  have HK := Lib.hid (K3.out.trans hk)
  clear hx hk HPB H3 K3
  go_wp2
  go_end0
  exact ROut.yes (α := Unit) (a := ()) rfl HX.out HK.out
end
end Go.Proofs.YtdjcgjkbecncaaaGreatDoor
namespace Go.Proofs.YtdjcgjkbecncaaaGreatDoor
open Go.RowKit
theorem digsP_stop (s : List UInt8) (i k : Nat) (hk : k ≤ 3) (hi : i + k ≤ s.length) (hall : ∀ j, j < k → ∃ c, s[i + j]? = some c ∧ isDig c = true) (hst : k = 3 ∨ i + k = s.length ∨ ∃ c, s[i + k]? = some c ∧ isDig c = false) : digsP s i = (s.drop i).take k := by
 have h0 : ∀ (l : List UInt8) (n : Nat), (∀ j, j < n → ∃ c, l[j]? = some c ∧ isDig c = true) → (n = l.length ∨ ∃ c, l[n]? = some c ∧ isDig c = false) → l.takeWhile isDig = l.take n := by
  intro l
  induction l with
  | nil =>
   intro n h1 h2
   simp
  | cons a l ih =>
   intro n h1 h2
   cases n with
   | zero =>
    rcases h2 with h2 | ⟨c, hc, hd⟩
    ·simp at h2
    ·have e : a = c := by simpa using hc
     rw [e, List.takeWhile_cons, hd]
     simp
   | succ n =>
    obtain ⟨c, hc, hd⟩ := h1 0 (by omega)
    have e : a = c := by simpa using hc
    rw [e, List.takeWhile_cons, hd]
    simp only [if_true, List.take_succ_cons]
    rw [ih n (fun j hj => by simpa using h1 (j + 1) (by omega)) (by
     rcases h2 with h2 | ⟨c', hc', hd'⟩
     ·exact .inl (by simpa using h2)
     ·exact .inr ⟨c', by simpa using hc', hd'⟩)]
 have hg : ∀ j, j < 3 → ((s.drop i).take 3)[j]? = s[i + j]? := fun j hj => by rw [List.getElem?_take_of_lt hj, List.getElem?_drop]
 unfold digsP
 rw [h0 ((s.drop i).take 3) k (fun j hj => by rw [hg j (by omega)]; exact hall j hj) (by
  have hl : ((s.drop i).take 3).length = min 3 (s.length - i) := by simp
  rcases hst with h | h | ⟨c, hc, hd⟩
  ·left; rw [hl]; omega
  ·left; rw [hl]; omega
  ·by_cases h3 : k = 3
   ·left; rw [hl]; omega
   ·exact .inr ⟨c, by rw [hg k (by omega)]; exact hc, hd⟩)]
 rw [List.take_take]
 congr 1
 omega
theorem atoi_one : ∀ a : Nat, a < 10 → Lib.atoiAll [UInt8.ofNat (48 + a)] = .ok (a : Int) := by decide +kernel
theorem atoi_two : ∀ a : Nat, a < 10 → ∀ b : Nat, b < 10 → Lib.atoiAll [UInt8.ofNat (48 + a), UInt8.ofNat (48 + b)] = .ok ((a * 10 + b : Nat) : Int) := by decide +kernel
theorem atoi_three : ∀ a : Nat, a < 10 → ∀ b : Nat, b < 10 → ∀ c : Nat, c < 10 → Lib.atoiAll [UInt8.ofNat (48 + a), UInt8.ofNat (48 + b), UInt8.ofNat (48 + c)] = .ok (((a * 10 + b) * 10 + c : Nat) : Int) := by decide +kernel
theorem dig_of {c : UInt8} (h : isDig c = true) : ∃ a : Nat, a < 10 ∧ c = UInt8.ofNat (48 + a) ∧ c.toNat - 48 = a := by
 unfold isDig at h
 rw [Bool.and_eq_true, decide_eq_true_iff, decide_eq_true_iff] at h
 refine ⟨c.toNat - 48, by omega, ?_, rfl⟩
 apply UInt8.toNat_inj.1
 rw [show 48 + (c.toNat - 48) = c.toNat by omega]
 simp
theorem atoi_digs (l : List UInt8) (hl : l.length ≤ 3) (hd : ∀ c ∈ l, isDig c = true) : Lib.atoiAll l = if l = [] then Lib.atoiAll [] else .ok ((valP l : Nat) : Int) := by
 match l, hl with
 | [], _ => rfl
 | [a], _ =>
  obtain ⟨x, hx, rfl, e⟩ := dig_of (hd a (by simp))
  rw [if_neg (by simp), atoi_one x hx]
  simp only [valP, List.foldl]
  rw [e]; simp
 | [a, b], _ =>
  obtain ⟨x, hx, rfl, e⟩ := dig_of (hd a (by simp))
  obtain ⟨y, hy, rfl, e2⟩ := dig_of (hd b (by simp))
  rw [if_neg (by simp), atoi_two x hx y hy]
  simp only [valP, List.foldl]
  rw [e, e2]; simp
 | [a, b, c], _ =>
  obtain ⟨x, hx, rfl, e⟩ := dig_of (hd a (by simp))
  obtain ⟨y, hy, rfl, e2⟩ := dig_of (hd b (by simp))
  obtain ⟨z, hz, rfl, e3⟩ := dig_of (hd c (by simp))
  rw [if_neg (by simp), atoi_three x hx y hy z hz]
  simp only [valP, List.foldl]
  rw [e, e2, e3]; simp
def SynV (w : World) : Prop := ∃ tp p, w.var? Tryz.prog "strconv.ErrSyntax" = some #[.iface tp p]
theorem synNm : Tryz.prog.globalNamed "strconv.ErrSyntax" = some 6 := by kernel_rfl
theorem SynV.same {w w' : World} (h : SynV w) (e : w'.heap[6]? = w.heap[6]?) : SynV w' := by
 obtain ⟨tp, p, h⟩ := h
 refine ⟨tp, p, ?_⟩
 unfold World.var? at h ⊢
 rw [synNm] at h ⊢
 simp only [Option.bind_some] at h ⊢
 rw [e]; exact h
theorem SynV.lt {w : World} (h : SynV w) : 6 < w.heap.size := by
 obtain ⟨tp, p, h⟩ := h
 exact cell_lt ((World.var?_cell synNm h 0).trans rfl)
theorem MaxL.lt {w : World} (h : MaxL w) : 1 < w.heap.size := by obtain ⟨m, h⟩ := h; exact cell_lt h
theorem MaxL.same {w w' : World} (h : MaxL w) (e : w'.heap[1]? = w.heap[1]?) : MaxL w' := by
 obtain ⟨m, h⟩ := h
 refine ⟨m, ?_⟩
 rw [← h]
 simp only [World.cell?, e]
structure FB (w : World) (b : Nat) (v : Value) : Prop where
 m : MaxL w
 sy : SynV w
 bm : b ≠ 1
 bs : b ≠ 6
 vm : v.ownBlock ≠ some 1
 vs : v.ownBlock ≠ some 6
theorem FB.step {w w' : World} {b : Nat} {v v' : Value} (h : FB w b v) (k : RK w b v w' v') : FB w' b v' := by
 have hm := h.m.lt
 have hs := h.sy.lt
 refine ⟨h.m.same (k.k.block _ hm (fun e => by rcases e with e | e; exact h.bm e.symm; exact h.vm e)), h.sy.same (k.k.block _ hs (fun e => by rcases e with e | e; exact h.bs e.symm; exact h.vs e)), h.bm, h.bs, ?_, ?_⟩
 ·rcases k.v with e | ⟨j, e, hj⟩
  ·rw [e]; exact h.vm
  ·rw [e]; intro q; have := Option.some.inj q; omega
 ·rcases k.v with e | ⟨j, e, hj⟩
  ·rw [e]; exact h.vs
  ·rw [e]; intro q; have := Option.some.inj q; omega
theorem atoib_c (l : List UInt8) (hl : l.length ≤ 3) (hd : ∀ c ∈ l, isDig c = true) (w : World) (h : SynV w) :
  Calls Tryz.prog 195 #[.string ⟨l.toArray⟩] w fun e w' => (∃ v, e = .returned (.tuple #[.int .i64 ((valP l : Nat) : Int), v]) ∧ ((l ≠ [] ∧ v = .nilIface) ∨ (l = [] ∧ ∃ t N, v = .iface t (.pointer (some ⟨N, 0, none⟩))))) ∧ Below w.heap.size w w' := by
 have ha := atoi_digs l hl hd
 by_cases he : l = []
 ·subst he
  obtain ⟨tp, p, hv⟩ := h
  refine (Any.strconv_Atoi_syntax_var Tryz.laysC172 ⟨([] : List UInt8).toArray⟩ (by simp [ByteArray.size]) rfl tp p w hv).mono ?_
  rintro e w' ⟨M, rfl, _, _, hB⟩
  exact ⟨⟨_, rfl, .inr ⟨rfl, _, M, rfl⟩⟩, hB⟩
 ·rw [if_neg he] at ha
  refine (Tryz.strconv_Atoi_ok ⟨l.toArray⟩ (by simp [ByteArray.size]; omega) _ (by simpa using ha) w).mono ?_
  rintro e w' ⟨rfl, rfl | ⟨t, rfl⟩⟩
  ·exact ⟨⟨_, rfl, .inl ⟨he, rfl⟩⟩, Below.refl _ _⟩
  ·exact ⟨⟨_, rfl, .inl ⟨he, rfl⟩⟩, Joins.below_bytesWorld _ _ _ _ (Nat.le_refl _)⟩
section
variable {b : Nat} {s : List UInt8} {r : BRd} {v : Value} {T : TypeId} {cs : Array Value} {p : Nat}
end
end Go.Proofs.YtdjcgjkbecncaaaGreatDoor
namespace Go.Proofs.YtdjcgjkbecncaaaGreatDoor
open Go.RowKit
section
variable {b : Nat} {s : List UInt8} {T : TypeId} {cs : Array Value} {p : Nat}
theorem over_q2 (w : World) (c0 : w.cell? ⟨b, 0, none⟩ = some (.string ⟨s.toArray⟩)) (k : Nat) (c1 : w.cell? ⟨b, 1, none⟩ = some (.int .i64 ((p : Int) + (k : Int)))) :
  Calls Tryz.prog 145 #[.pointer (some ⟨b, 0, none⟩)] w fun e w' => e = .returned (.bool (decide (p + k = s.length))) ∧ ∃ n, w' = w.drewN n := by
 have hsz : (⟨s.toArray⟩ : ByteArray).size = s.length := by simp [ByteArray.size]
 have he : ((p : Int) + (k : Int) == (s.length : Int)) = decide (p + k = s.length) := by
  rw [Bool.eq_iff_iff]; simp; omega
 go_enter Tryz.func145, Tryz.ntmps145
 go_wp2_with fail
 go_quiet (fail)
 go_wp2
 go_ret
 exact ⟨rfl, _, rfl⟩
theorem slice_two (s : List UInt8) (hl : s.length ≤ 100000) (p k : Nat) (hp : p + k ≤ s.length) (w : World) : (Instr.slice 9 (.string ⟨s.toArray⟩) (some (.int .i64 (p : Int))) (some (.int .i64 ((p : Int) + (k : Int)))) none).run Tryz.prog w = .ok (.string ⟨((s.drop p).take k).toArray⟩) w := by
 have hs : (⟨s.toArray⟩ : ByteArray).size = s.length := by simp [ByteArray.size]
 have e : (⟨s.toArray⟩ : ByteArray).extract p (p + k) = ⟨((s.drop p).take k).toArray⟩ := by
  apply ByteArray.ext
  apply Array.ext'
  simp [ByteArray.data_extract]
 rw [run_slice_string_if (P := Tryz.prog) w 9 _ .i64 .i64 (p : Int) ((p : Int) + (k : Int)) Tryz.underlying9, if_pos ⟨by omega, by rw [hs]; omega⟩, if_pos ⟨by omega, by omega⟩]
 rw [show ((p : Int) + (k : Int)).toNat = p + k by omega, show ((p : Int)).toNat = p by omega, e]
theorem bnumber_c (w : World) (h : TX w b T cs s p) (hsy : SynV w) (hbs : b ≠ 6) :
  Calls Tryz.prog 193 #[.pointer (some ⟨b, 0, none⟩)] w fun e w' => e = .returned (.tuple #[.int .i64 (numP s p).1, .bool (numP s p).2.1]) ∧ Mv w b T cs s (numP s p).2.2 w' := by
 have hs := h.s
 have hpl := h.p
 have c0 := h.cell0
 have c1 := h.cell1
 have hsz : (⟨s.toArray⟩ : ByteArray).size = s.length := by simp [ByteArray.size]
 have hsyl := hsy.lt
 have HS := Lib.hid hs
 have SYN := Lib.hid fun W (hg : w.grownBy W (some b)) => hsy.same (hg.block _ hsyl (fun e => hbs (Option.some.inj e).symm))
 have HQ := Lib.hid fun W c0 k c1 => over_q2 (b := b) (s := s) (p := p) W c0 k c1
 have HM0 := Lib.hid (Mv.of h (Below.refl _ _))
 clear h hsy
 go_enter Tryz.func193, Tryz.ntmps193
 go_wp2
 go_loopw [] (fun wr => ∃ k : Nat, k ≤ 3 ∧ p + k ≤ s.length ∧ (∀ j, j < k → ∃ c, s[p + j]? = some c ∧ isDig c = true) ∧ Mv w b T cs s (p + k) wr) (fun wr => s.length - placeIn b wr)
 case atStart => exact ⟨0, by omega, hpl, fun j hj => absurd hj (by omega), HM0.out⟩
 case round =>
  clear HM0 c0 c1
  obtain ⟨k, hk, hpk, hall, hM⟩ := hrel
  have hpo := hM.place
  have c0 := hM.x.cell0
  have c1 := hM.x.cell1
  have cf := hM.x.fz
  rw [Int.natCast_add] at c1
  have ew3 : IntKind.i64.wrap ((p : Int) + 3) = (p : Int) + 3 := by simp [IntKind.wrap, IntKind.signed, IntKind.bits]; omega
  have ew1 : IntKind.i64.wrap ((p : Int) + (k : Int) + 1) = (p : Int) + (k : Int) + 1 := by simp [IntKind.wrap, IntKind.signed, IntKind.bits]; omega
  by_cases h1 : p + k = s.length
  rotate_left
  have hd : decide (p + k = s.length) = false := by simpa using h1
  by_cases h3 : k = 3
  rotate_left
  have hl3 : ((p : Int) + (k : Int) < (p : Int) + 3) = True := by simp; omega
  obtain ⟨c, hc⟩ : ∃ c, s[p + k]? = some c := ⟨_, List.getElem?_eq_getElem (by omega)⟩
  have hx := fun W => ix_c hM.x c hc W
  rw [Int.natCast_add] at hx
  by_cases hlo : 48 ≤ c.toNat
  have hge : ((48 : Int) ≤ (c.toNat : Int)) = True := by simp; omega
  by_cases hhi : c.toNat ≤ 57
  ·have hle : ((c.toNat : Int) ≤ 57) = True := by simp; omega
   have hnew : ∀ j, j < k + 1 → ∃ c, s[p + j]? = some c ∧ isDig c = true := fun j hj => by
    by_cases e : j = k
    ·subst e; exact ⟨c, hc, by unfold isDig; simp [hlo, hhi]⟩
    ·exact hall j (by omega)
   have HM1 := Lib.hid hM
   have HA1 := Lib.hid hnew
   clear hM hall hnew
   go_wp2_with fail
   go_quiet (exact Calls.quiet_of (HQ.out _ (by assumption) _ (by assumption)))
   have m2 := (HM1.out.below (Go.below_drewN (Below.refl wr.heap.size wr) nq)).set (p + (k + 1)) (by omega)
   have ec : ((p + (k + 1) : Nat) : Int) = (p : Int) + (k : Int) + 1 := by omega
   rw [ec] at m2
   have hpn := m2.place
   have HM2 := Lib.hid m2
   clear m2
   go_wp2
   go_roundw
   case rel => exact ⟨k + 1, by omega, by omega, HA1.out, HM2.out⟩
   case measure => rw [hpn, hpo]; omega
  have hle : ((c.toNat : Int) ≤ 57) = False := by simp; omega
  have hst : k = 3 ∨ p + k = s.length ∨ ∃ c, s[p + k]? = some c ∧ isDig c = false := .inr (.inr ⟨c, hc, by unfold isDig; simp [hlo, hhi]⟩)
  rotate_left
  have hge : ((48 : Int) ≤ (c.toNat : Int)) = False := by simp; omega
  have hst : k = 3 ∨ p + k = s.length ∨ ∃ c, s[p + k]? = some c ∧ isDig c = false := .inr (.inr ⟨c, hc, by unfold isDig; simp [hlo]⟩)
  rotate_left
  have hst : k = 3 ∨ p + k = s.length ∨ ∃ c, s[p + k]? = some c ∧ isDig c = false := .inr (.inl h1)
  rotate_left
  have hst : k = 3 ∨ p + k = s.length ∨ ∃ c, s[p + k]? = some c ∧ isDig c = false := .inl h3
  have hl3 : ((p : Int) + (k : Int) < (p : Int) + 3) = False := by simp; omega
  clear h3
  all_goals
   have HM1 := Lib.hid hM
   have HA1 := Lib.hid hall
   have HT1 := Lib.hid hst
   clear hM hall hst
   go_wp2_with fail
   go_quiet (exact Calls.quiet_of (HQ.out _ (by assumption) _ (by assumption)))
   have hM := HM1.out
   have hall := HA1.out
   have hst := HT1.out
   have HB3 := Lib.hid (Go.below_drewN (Below.refl wr.heap.size wr) nq)
   clear HM1 HA1 HT1
   have hdg : digsP s p = (s.drop p).take k := digsP_stop s p k hk hpk hall hst
   have hmem : ∀ c ∈ (s.drop p).take k, isDig c = true := fun c hc => by
    obtain ⟨j, hj, e⟩ := List.mem_iff_getElem.1 hc
    have hj' : j < k := by simp at hj; omega
    obtain ⟨c', h1, h2⟩ := hall j hj'
    have : ((s.drop p).take k)[j]? = some c := by rw [List.getElem?_eq_getElem hj, e]
    rw [List.getElem?_take_of_lt hj', List.getElem?_drop, h1] at this
    cases this; exact h2
   have hlen : ((s.drop p).take k).length = k := by simp; omega
   have hnum : numP s p = (((valP ((s.drop p).take k) : Nat) : Int), !((s.drop p).take k).isEmpty, p + k) := by unfold numP; rw [hdg, hlen]
   have HNUM := Lib.hid hnum
   have hsl := fun W => slice_two s HS.out p k hpk W
   have HAT := Lib.hid fun W hW => atoib_c ((s.drop p).take k) (by omega) hmem W hW
   have hsy := SYN.out wr hM.g
   have HM := Lib.hid hM
   have hX := hM.x
   clear hdg hmem hall hst hnum
   generalize (s.drop p).take k = L at *
   go_wp2_with fail
   refine wp_region_held_drew (S := fun w' => TX w' b T (cs.setIfInBounds 1 (.int .i64 ((p + k : Nat) : Int))) s (p + k)) (by kernel_rfl) ?_ (fun hHeld => ?_)
   ·(try dsimp only); exact (hX.below HB3.out).below (Below.refl _ _).drew
   refine wpAnyH_take (i := 0) (v := ?_) rfl (by kernel_rfl) (by kernel_rfl) (by kernel_rfl) (fun _ _ _ h => h) (Or.inl ⟨by kernel_rfl, ?_⟩) (by assumption) ?_
   rotate_left
   ·(intro w hSw; (try dsimp only at hSw); go_simp); (try with_reducible rfl)
   try simp only [Act.put, laS]
   refine wpAnyH_take (i := 1) (v := ?_) rfl (by kernel_rfl) (by kernel_rfl) (by kernel_rfl) (fun _ _ _ h => h) (Or.inl ⟨by kernel_rfl, ?_⟩) (by assumption) ?_
   rotate_left
   ·(intro w hSw; (try dsimp only at hSw); go_simp); (try with_reducible rfl)
   try simp only [Act.put, laS]
   refine wpAnyH_take (i := 2) (v := ?_) rfl (by kernel_rfl) (by kernel_rfl) (by kernel_rfl) (fun _ _ _ h => h) (Or.inl ⟨by kernel_rfl, ?_⟩) (by assumption) ?_
   rotate_left
   ·(intro w hSw; (try dsimp only at hSw); go_simp); (try with_reducible rfl)
   try simp only [Act.put, laS]
   refine wpAnyH_take (i := 3) (v := ?_) rfl (by kernel_rfl) (by kernel_rfl) (by kernel_rfl) (fun _ _ _ h => h) (Or.inl ⟨by kernel_rfl, ?_⟩) (by assumption) ?_
   rotate_left
   ·(intro w hSw; (try dsimp only at hSw); go_simp); (try with_reducible rfl)
   try simp only [Act.put, laS]
   refine wpAnyH_take (i := 4) (v := ?_) rfl (by kernel_rfl) (by kernel_rfl) (by kernel_rfl) (fun _ _ _ h => h) (Or.inl ⟨by kernel_rfl, ?_⟩) (by assumption) ?_
   rotate_left
   ·(intro w hSw; (try dsimp only at hSw); have z0 := hSw.cell0; have z1 := hSw.cell1; rw [Int.natCast_add] at z1; go_simp); (try with_reducible rfl)
   try simp only [Act.put, laS]
   refine wpAnyH_take (i := 5) (v := ?_) rfl (by kernel_rfl) (by kernel_rfl) (by kernel_rfl) (fun _ _ _ h => h) (Or.inl ⟨by kernel_rfl, ?_⟩) (by assumption) ?_
   rotate_left
   ·(intro w hSw; (try dsimp only at hSw); go_simp); (try with_reducible rfl)
   try simp only [Act.put, laS]
   refine wpAnyH_take (i := 6) (v := ?_) rfl (by kernel_rfl) (by kernel_rfl) (by kernel_rfl) (fun _ _ _ h => h) (Or.inl ⟨by kernel_rfl, ?_⟩) (by assumption) ?_
   rotate_left
   ·(intro w hSw; (try dsimp only at hSw); go_simp); (try with_reducible rfl)
   try simp only [Act.put, laS]
   refine wpAnyH_take (i := 7) (v := ?_) rfl (by kernel_rfl) (by kernel_rfl) (by kernel_rfl) (fun _ _ _ h => h) (Or.inl ⟨by kernel_rfl, ?_⟩) (by assumption) ?_
   rotate_left
   ·(intro w hSw; (try dsimp only at hSw); go_simp); (try with_reducible rfl)
   try simp only [Act.put, laS]
   refine wpAnyH_take (i := 8) (v := ?_) rfl (by kernel_rfl) (by kernel_rfl) (by kernel_rfl) (fun _ _ _ h => h) (Or.inl ⟨by kernel_rfl, ?_⟩) (by assumption) ?_
   rotate_left
   ·(intro w hSw; (try dsimp only at hSw); go_simp); (try with_reducible rfl)
   try simp only [Act.put, laS]
   refine wpAnyH_take (i := 9) (v := ?_) rfl (by kernel_rfl) (by kernel_rfl) (by kernel_rfl) (fun _ _ _ h => h) (Or.inl ⟨by kernel_rfl, ?_⟩) (by assumption) ?_
   rotate_left
   ·(intro w hSw; (try dsimp only at hSw); go_simp); (try with_reducible rfl)
   try simp only [Act.put, laS]
   refine wpAnyH_take (i := 10) (v := ?_) rfl (by kernel_rfl) (by kernel_rfl) (by kernel_rfl) (fun _ _ _ h => h) (Or.inl ⟨by kernel_rfl, ?_⟩) (by assumption) ?_
   rotate_left
   ·(intro w hSw; (try dsimp only at hSw); have z0 := hSw.cell0; have z1 := hSw.cell1; rw [Int.natCast_add] at z1; go_simp); (try with_reducible rfl)
   try simp only [Act.put, laS]
   refine wpAnyH_take (i := 11) (v := ?_) rfl (by kernel_rfl) (by kernel_rfl) (by kernel_rfl) (fun _ _ _ h => h) (Or.inl ⟨by kernel_rfl, ?_⟩) (by assumption) ?_
   rotate_left
   ·(intro w hSw; (try dsimp only at hSw); go_simp); (try with_reducible rfl)
   try simp only [Act.put, laS]
   refine wpAnyH_ready (rs := [12]) (by kernel_rfl) (by simp) ?_
   refine AllReadyH.cons rfl (fun K hK => ?_) AllReadyH.nil
   go_simp
   refine (HAT.out _ (SYN.out _ ((hM.below HB3.out).below (Below.refl _ _).drew).g)).mono ?_
   rintro e wz ⟨⟨V, rfl, hV⟩, hBz⟩
   have hMz := ((HM.out.below HB3.out).below (Below.refl _ _).drew).below hBz
   have hXz := hMz.x
   refine hK.out _ _ ?_ (fun hHeld => ?_)
   ·(try dsimp only); exact hXz
   clear hK K
   try simp only [Act.put, laS]
   refine wpAnyH_take (i := 13) (v := ?_) rfl (by kernel_rfl) (by kernel_rfl) (by kernel_rfl) (fun _ _ _ h => h) (Or.inl ⟨by kernel_rfl, ?_⟩) (by assumption) ?_
   rotate_left
   ·(intro w hSw; (try dsimp only at hSw); go_simp); (try with_reducible rfl)
   try simp only [Act.put, laS]
   refine wpAnyH_take (i := 14) (v := ?_) rfl (by kernel_rfl) (by kernel_rfl) (by kernel_rfl) (fun _ _ _ h => h) (Or.inl ⟨by kernel_rfl, ?_⟩) (by assumption) ?_
   rotate_left
   ·(intro w hSw; (try dsimp only at hSw); go_simp); (try with_reducible rfl)
   try simp only [Act.put, laS]
   refine wpAnyH_take (i := 15) (v := ?_) rfl (by kernel_rfl) (by kernel_rfl) (by kernel_rfl) (fun _ _ _ h => h) (Or.inl ⟨by kernel_rfl, ?_⟩) (by assumption) ?_
   rotate_left
   ·(intro w hSw; (try dsimp only at hSw); go_simp); (try with_reducible rfl)
   try simp only [Act.put, laS]
   refine wpAnyH_take (i := 16) (v := ?_) rfl (by kernel_rfl) (by kernel_rfl) (by kernel_rfl) (fun _ _ _ h => h) (Or.inl ⟨by kernel_rfl, ?_⟩) (by assumption) ?_
   rotate_left
   ·(intro w hSw; (try dsimp only at hSw); go_simp); (try with_reducible rfl)
   try simp only [Act.put, laS]
   refine wpAnyH_take (i := 17) (v := ?_) rfl (by kernel_rfl) (by kernel_rfl) (by kernel_rfl) (fun _ _ _ h => h) (Or.inl ⟨by kernel_rfl, ?_⟩) (by assumption) ?_
   rotate_left
   ·(intro w hSw; (try dsimp only at hSw); go_simp); (try with_reducible rfl)
   try simp only [Act.put, laS]
   refine wpAnyH_done (by kernel_rfl) ?_ _
   have HMz := Lib.hid hMz
   clear hMz hXz hX hBz hHeld HAT HM hsl
   rcases hV with ⟨hne, rfl⟩ | ⟨rfl, tt, NN, rfl⟩
   ·have hemp : (!L.isEmpty) = true := by cases L with
     | nil => exact absurd rfl hne
     | cons _ _ => rfl
    clear hne
    go_wp2_with fail
    go_quiet (fail)
    go_wp2
    refine bodyPost_ret (v := .tuple #[.int .i64 ((valP L : Nat) : Int), .bool true]) (by simp [results, Tryz.results193, go_sem]) rfl ?_
    exact ⟨by rw [HNUM.out]; simp only [hemp], by rw [HNUM.out]; exact HMz.out.below (Go.below_drewN (Below.refl _ _) _)⟩
   ·have hq : ∀ w : World, (binOp .eql 85 (.iface tt (.pointer (some ⟨NN, 0, none⟩))) .nilIface).run Tryz.prog w = .ok (.bool false) w := fun _ => rfl
    go_wp2_with fail
    go_quiet (fail)
    go_wp2
    refine bodyPost_ret (v := .tuple #[.int .i64 ((valP [] : Nat) : Int), .bool false]) (by simp [results, Tryz.results193, go_sem]) rfl ?_
    exact ⟨by rw [HNUM.out]; rfl, by rw [HNUM.out]; exact HMz.out.below (Go.below_drewN (Below.refl _ _) _)⟩
end
end Go.Proofs.YtdjcgjkbecncaaaGreatDoor
