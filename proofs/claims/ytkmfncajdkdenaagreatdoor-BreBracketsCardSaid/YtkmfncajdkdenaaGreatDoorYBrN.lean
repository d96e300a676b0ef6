/- What a set shows: what is only told, what is left, one byte: the walks. -/
import Derived.Test.YtkmfncajdkdenaaGreatDoorYBrJ
import Derived.Test.YtkmfncajdkdenaaGreatDoorYRxU
import Derived.Test.YtkmfncajdkdenaaGreatDoorYBrKe
set_option linter.unusedVariables false
set_option linter.unusedSimpArgs false
set_option maxRecDepth 100000
set_option maxHeartbeats 40000000
namespace Go.Proofs.YtkmfncajdkdenaaGreatDoor
open Go.RowKit
theorem only_c (G : Nat → Bool) (c : Nat) (hc : c < 256) (t : List UInt8) (w : World) :
  Calls Tryz.prog 106 #[sv G, .int .u8 (c : Int), .string ⟨t.toArray⟩] w fun e w' => e = .returned (.string ⟨(if G c then t else []).toArray⟩) ∧ Below w.heap.size w w' := by
 have HH := Lib.hid fun w => has_c G c hc w
 have b0 : Below w.heap.size w (w.alloc (.cells #[.int .u64 (wd G 0), .int .u64 (wd G 1), .int .u64 (wd G 2), .int .u64 (wd G 3)] 25)) := (Below.refl _ w).alloc (Nat.le_refl _) _
 have B0 := Lib.hid b0
 clear b0
 unfold sv at HH ⊢
 cases hg : G c with
 | false =>
  rw [hg] at HH
  go_enter Tryz.func106, Tryz.ntmps106
  go_wp2_with fail
  refine (HH.out _).mono ?_
  rintro e w1 ⟨rfl, hB⟩
  have HB := Lib.hid (B0.out.trans (hB.mono B0.out.size))
  clear hB HH B0
  go_wp2
  go_ret
  exact ⟨rfl, HB.out⟩
 | true =>
  rw [hg] at HH
  go_enter Tryz.func106, Tryz.ntmps106
  go_wp2_with fail
  refine (HH.out _).mono ?_
  rintro e w1 ⟨rfl, hB⟩
  have HB := Lib.hid (B0.out.trans (hB.mono B0.out.size))
  clear hB HH B0
  go_wp2
  go_ret
  exact ⟨rfl, HB.out⟩
theorem less_c (F G : Nat → Bool) (w : World) :
  Calls Tryz.prog 108 #[sv F, sv G] w fun e w' => e = .returned (sv fun i => F i && !G i) ∧ Below w.heap.size w w' := by
 obtain ⟨w0, hw0⟩ : ∃ w0, w0 = (((w.alloc (.cells #[.int .u64 (wd F 0), .int .u64 (wd F 1), .int .u64 (wd F 2), .int .u64 (wd F 3)] 25)).alloc (.cells #[.int .u64 (wd G 0), .int .u64 (wd G 1), .int .u64 (wd G 2), .int .u64 (wd G 3)] 25)).alloc (.cells #[.int .u64 0, .int .u64 0, .int .u64 0, .int .u64 0] 25)) := ⟨_, rfl⟩
 have a0 := ((Four.new w 25 (.int .u64 (wd F 0)) (.int .u64 (wd F 1)) (.int .u64 (wd F 2)) (.int .u64 (wd F 3))).alloc (.cells #[.int .u64 (wd G 0), .int .u64 (wd G 1), .int .u64 (wd G 2), .int .u64 (wd G 3)] 25)).alloc (.cells #[.int .u64 0, .int .u64 0, .int .u64 0, .int .u64 0] 25)
 have g0 := (Four.new (w.alloc (.cells #[.int .u64 (wd F 0), .int .u64 (wd F 1), .int .u64 (wd F 2), .int .u64 (wd F 3)] 25)) 25 (.int .u64 (wd G 0)) (.int .u64 (wd G 1)) (.int .u64 (wd G 2)) (.int .u64 (wd G 3))).alloc (.cells #[.int .u64 0, .int .u64 0, .int .u64 0, .int .u64 0] 25)
 have r0 := Four.new ((w.alloc (.cells #[.int .u64 (wd F 0), .int .u64 (wd F 1), .int .u64 (wd F 2), .int .u64 (wd F 3)] 25)).alloc (.cells #[.int .u64 (wd G 0), .int .u64 (wd G 1), .int .u64 (wd G 2), .int .u64 (wd G 3)] 25)) 25 (.int .u64 0) (.int .u64 0) (.int .u64 0) (.int .u64 0)
 rw [World.size_alloc] at g0
 rw [World.size_alloc, World.size_alloc] at r0
 have b0 : Below w.heap.size w (((w.alloc (.cells #[.int .u64 (wd F 0), .int .u64 (wd F 1), .int .u64 (wd F 2), .int .u64 (wd F 3)] 25)).alloc (.cells #[.int .u64 (wd G 0), .int .u64 (wd G 1), .int .u64 (wd G 2), .int .u64 (wd G 3)] 25)).alloc (.cells #[.int .u64 0, .int .u64 0, .int .u64 0, .int .u64 0] 25)) := (((Below.refl _ w).alloc (Nat.le_refl _) _).alloc (by simp) _).alloc (by simp; omega) _
 rw [← hw0] at a0 g0 r0 b0
 obtain ⟨N, hN⟩ : ∃ N : Nat → Bool, N = fun i => !F i := ⟨_, rfl⟩
 obtain ⟨O, hO⟩ : ∃ O : Nat → Bool, O = fun i => N i || G i := ⟨_, rfl⟩
 obtain ⟨R, hR⟩ : ∃ R : Nat → Bool, R = fun i => !O i := ⟨_, rfl⟩
 have hfin : sv (fun i => F i && !G i) = sv R := sv_congr fun i _ => by rw [hR, hO, hN]; simp
 rw [hfin]
 have hn1 := fun w => not_c F w
 have hor := fun b cap w hb => or2_c N G b cap w 25 hb
 have hn2 := fun w => not_c O w
 simp only [← hN] at hn1
 simp only [← hO] at hor
 simp only [← hR] at hn2
 have H1 := Lib.hid hn1
 have H2 := Lib.hid hor
 have H3 := Lib.hid hn2
 have HW := Lib.hid hw0
 have A0 := Lib.hid a0
 have G0 := Lib.hid g0
 have R0 := Lib.hid r0
 have B0 := Lib.hid b0
 clear hfin hN hO hR hn1 hor hn2 hw0 a0 g0 r0 b0
 unfold sv at H1 H2 H3 ⊢
 go_enter Tryz.func108, Tryz.ntmps108
 go_wp2_with fail
 rw [← HW.out]
 clear HW
 refine wp_region_held_drew (S := fun w' => FourS w' w.heap.size F ∧ FourS w' (w.heap.size + 1) G) (by kernel_rfl) ⟨A0.out.drew, G0.out.drew⟩ (fun hHeld => ?_)
 refine wpAnyH_take (i := 0) (v := ?_) rfl (by kernel_rfl) (by kernel_rfl) (by kernel_rfl) (fun _ _ _ h => h) (Or.inl ⟨by kernel_rfl, ?_⟩) (by assumption) ?_
 rotate_left
 ·(intro w hSw; (try dsimp only at hSw); have z0 := hSw.1.c0; have z1 := hSw.1.c1; have z2 := hSw.1.c2; have z3 := hSw.1.c3; go_simp); (try with_reducible rfl)
 try simp only [Act.put, laS]
 refine wpAnyH_take (i := 2) (v := ?_) rfl (by kernel_rfl) (by kernel_rfl) (by kernel_rfl) (fun _ _ _ h => h) (Or.inl ⟨by kernel_rfl, ?_⟩) (by assumption) ?_
 rotate_left
 ·(intro w hSw; (try dsimp only at hSw); have z0 := hSw.2.c0; have z1 := hSw.2.c1; have z2 := hSw.2.c2; have z3 := hSw.2.c3; go_simp); (try with_reducible rfl)
 try simp only [Act.put, laS]
 refine wpAnyH_ready (rs := [1]) (by kernel_rfl) (by simp) ?_
 refine AllReadyH.cons rfl (fun K hK => ?_) AllReadyH.nil
 go_simp
 refine (H1.out _).mono ?_
 rintro e w1 ⟨rfl, hB1⟩
 have b01 : Below w0.heap.size w0 w1 := ((Below.refl _ w0).drew).trans hB1
 refine hK.out _ _ ?_ (fun hHeld => ?_)
 ·exact ⟨A0.out.below b01 A0.out.lt, G0.out.below b01 G0.out.lt⟩
 clear hK K hB1
 try simp only [Act.put, laS]
 have b02 := b01.alloc b01.size (.cells #[.int .u64 (wd N 0), .int .u64 (wd N 1), .int .u64 (wd N 2), .int .u64 (wd N 3), .int .u64 (wd G 0), .int .u64 (wd G 1), .int .u64 (wd G 2), .int .u64 (wd G 3)] 25)
 have hnew : (w1.alloc (.cells #[.int .u64 (wd N 0), .int .u64 (wd N 1), .int .u64 (wd N 2), .int .u64 (wd N 3), .int .u64 (wd G 0), .int .u64 (wd G 1), .int .u64 (wd G 2), .int .u64 (wd G 3)] 25)).heap[w1.heap.size]? = some (.cells #[.int .u64 (wd N 0), .int .u64 (wd N 1), .int .u64 (wd N 2), .int .u64 (wd N 3), .int .u64 (wd G 0), .int .u64 (wd G 1), .int .u64 (wd G 2), .int .u64 (wd G 3)] 25 (0, 0)) := heap_new w1 _
 have h2 := H2.out w1.heap.size 2 _ hnew
 have H2' := Lib.hid h2
 clear h2 hnew H2
 refine wpAnyH_ready (rs := [3]) (by kernel_rfl) (by simp) ?_
 refine AllReadyH.cons rfl (fun K hK => ?_) AllReadyH.nil
 go_simp
 refine hK.out _ _ ?_ (fun hHeld => ?_)
 ·exact ⟨A0.out.below b02 A0.out.lt, G0.out.below b02 G0.out.lt⟩
 clear hK K
 try simp only [Act.put, laS]
 refine wpAnyH_ready (rs := [4]) (by kernel_rfl) (by simp) ?_
 refine AllReadyH.cons rfl (fun K hK => ?_) AllReadyH.nil
 go_simp
 refine H2'.out.mono ?_
 rintro e w2 ⟨rfl, hB2⟩
 have b03 := b02.trans (hB2.mono b02.size)
 refine hK.out _ _ ?_ (fun hHeld => ?_)
 ·exact ⟨A0.out.below b03 A0.out.lt, G0.out.below b03 G0.out.lt⟩
 clear hK K hB2 b02 H2'
 try simp only [Act.put, laS]
 refine wpAnyH_ready (rs := [5]) (by kernel_rfl) (by simp) ?_
 refine AllReadyH.cons rfl (fun K hK => ?_) AllReadyH.nil
 go_simp
 refine (H3.out _).mono ?_
 rintro e w3 ⟨rfl, hB3⟩
 have b04 := b03.trans (hB3.mono b03.size)
 refine hK.out _ _ ?_ (fun hHeld => ?_)
 ·exact ⟨A0.out.below b04 A0.out.lt, G0.out.below b04 G0.out.lt⟩
 clear hK K hB3 b03 b01
 try simp only [Act.put, laS]
 have r4 := R0.out.below b04 R0.out.lt
 have r4c0 := r4.c0
 have r4c1 := r4.c1
 have r4c2 := r4.c2
 have r4c3 := r4.c3
 have r4f0 := r4.fz 0
 have r4f1 := r4.fz 1
 have r4f2 := r4.fz 2
 have r4f3 := r4.fz 3
 refine wpAnyH_ready (rs := [6]) (by kernel_rfl) (by simp) ?_
 refine AllReadyH.cons rfl (fun K hK => ?_) AllReadyH.nil
 go_simp
 refine hK.out _ _ ?_ (fun hHeld => ?_)
 ·exact ⟨(A0.out.below b04 A0.out.lt).set4_other (by omega) _ _ _ _, (G0.out.below b04 G0.out.lt).set4_other (by omega) _ _ _ _⟩
 clear hK K
 try simp only [Act.put, laS]
 refine wpAnyH_done (by kernel_rfl) ?_ _
 have q := FourS.set r4 R
 have qc0 := q.c0
 have qc1 := q.c1
 have qc2 := q.c2
 have qc3 := q.c3
 have hbf := Below.set4 (B0.out.trans (b04.mono B0.out.size)) (b := w.heap.size + 1 + 1) (by omega) (.int .u64 (wd R 0)) (.int .u64 (wd R 1)) (.int .u64 (wd R 2)) (.int .u64 (wd R 3))
 go_wp2
 refine bodyPost_ret (v := sv R) (by simp [results, Tryz.results108, go_sem, qc0, qc1, qc2, qc3, sv]) rfl ⟨rfl, hbf⟩
def showOneP (c : UInt8) : List UInt8 := if c = 10 then [92, 110] else if c ∈ ([46, 91, 92, 42, 94, 36] : List UInt8) then [92, c] else [c]
theorem quoted_one : ∀ n : Nat, n < 256 → (decide (0 ≤ Lib.indexByte [46, 91, 92, 42, 94, 36] (UInt8.ofNat n)) = decide (UInt8.ofNat n ∈ ([46, 91, 92, 42, 94, 36] : List UInt8))) := by decide +kernel
theorem showone_c (c : UInt8) (w : World) :
  Calls Tryz.prog 81 #[.string ⟨#[c]⟩] w fun e w' => e = .returned (.string ⟨(showOneP c).toArray⟩) ∧ Below w.heap.size w w' := by
 have hcl := c.toNat_lt
 by_cases h10 : c = 10
 ·subst h10
  go_enter Tryz.func81, Tryz.ntmps81
  go_wp2
  go_ret
  exact ⟨rfl, Below.refl _ _⟩
 ·have hq : (c == 10) = false := by simpa using h10
  have hq2 : ¬ c = 10 := h10
  have q := quoted_one c.toNat (by omega)
  rw [show UInt8.ofNat c.toNat = c by simp] at q
  have HC := Lib.hid fun w => Tryz.strings_Contains_one ⟨#[46, 91, 92, 42, 94, 36]⟩ c w
  have e1 : (⟨#[46, 91, 92, 42, 94, 36]⟩ : ByteArray).data.toList = [46, 91, 92, 42, 94, 36] := rfl
  rw [e1, q] at HC
  clear e1 q
  by_cases hin : c ∈ ([46, 91, 92, 42, 94, 36] : List UInt8)
  ·rw [decide_eq_true hin] at HC
   have hr : showOneP c = [92, c] := by unfold showOneP; rw [if_neg h10, if_pos hin]
   rw [hr]
   clear hr hin
   go_enter Tryz.func81, Tryz.ntmps81
   go_wp2_with fail
   refine (HC.out _).mono ?_
   rintro e w1 ⟨rfl, rfl⟩
   go_wp2
   go_ret
   exact ⟨rfl, Below.refl _ _⟩
  ·rw [decide_eq_false hin] at HC
   have hr : showOneP c = [c] := by unfold showOneP; rw [if_neg h10, if_neg hin]
   rw [hr]
   clear hr hin
   go_enter Tryz.func81, Tryz.ntmps81
   go_wp2_with fail
   refine (HC.out _).mono ?_
   rintro e w1 ⟨rfl, rfl⟩
   go_wp2
   go_ret
   exact ⟨rfl, Below.refl _ _⟩
end Go.Proofs.YtkmfncajdkdenaaGreatDoor
namespace Go.Proofs.YtkmfncajdkdenaaGreatDoor
open Go.RowKit
def ROut {α : Type} (w : World) (b : Nat) (s : List UInt8) (v : Value) (val : α → Value) (res : Except Er (α × BRd)) (e : Ending) (w' : World) : Prop :=
 match res with
 | .ok (a, q) => e = .returned (val a) ∧ ∃ v', RX w' b s q v' ∧ RK w b v w' v'
 | .error (z, a) => e = Pan z (a : Int) ∧ ∃ v', RK w b v w' v'
theorem ROut.yes {α : Type} {w w' : World} {b : Nat} {s : List UInt8} {v v' : Value} {val : α → Value} {res : Except Er (α × BRd)} {a : α} {q : BRd} (hr : res = .ok (a, q)) (hx : RX w' b s q v') (hk : RK w b v w' v') : ROut w b s v val res (.returned (val a)) w' := by
 subst hr; exact ⟨rfl, v', hx, hk⟩
theorem ROut.no {α : Type} {w w' : World} {b : Nat} {s : List UInt8} {v v' : Value} {val : α → Value} {res : Except Er (α × BRd)} {z : Int} {a : Nat} (hr : res = .error (z, a)) (hk : RK w b v w' v') : ROut w b s v val res (Pan z (a : Int)) w' := by
 subst hr; exact ⟨rfl, v', hk⟩
theorem ROut.trans {α : Type} {w w1 w' : World} {b : Nat} {s : List UInt8} {v v1 : Value} {val : α → Value} {res : Except Er (α × BRd)} {e : Ending} (hk : RK w b v w1 v1) (h : ROut w1 b s v1 val res e w') : ROut w b s v val res e w' := by
 unfold ROut at *
 cases res with
 | error q => obtain ⟨z, a⟩ := q; obtain ⟨he, v', h'⟩ := h; exact ⟨he, v', hk.trans h'⟩
 | ok q => obtain ⟨a, q⟩ := q; obtain ⟨he, v', hx, h'⟩ := h; exact ⟨he, v', hx, hk.trans h'⟩
theorem RX.row_but {w : World} {b : Nat} {s : List UInt8} {r : BRd} {v : Value} (h : RX w b s r v) {j : Nat} (u : Value) (r' : BRd) (hr : (rcells s r v).setIfInBounds j u = rcells s r' v) (hl : r'.l = r.l) (hp : r'.p ≤ s.length) : RX (w.setCell ⟨b, j, none⟩ u) b s r' v := by
 have gr0 : w.grownBy w (some b) := ⟨rfl, rfl, rfl, Nat.le_refl _, fun _ _ _ => rfl⟩
 refine ⟨?_, ?_, h.ob, hp, h.s, by rw [hl]; exact h.l⟩
 ·rw [heap_setCell_same _ b j _ _ _ h.heap, hr]
 ·rw [hl]; exact h.row.kept (grown_setc gr0 j u) (.inr h.ob)
theorem RK.set {w w1 : World} {b : Nat} {v v1 : Value} (h : RK w b v w1 v1) (j : Nat) (u : Value) : RK w b v (w1.setCell ⟨b, j, none⟩ u) v1 := ⟨h.k.setCell (p := ⟨b, j, none⟩) (.inl rfl) u, h.v⟩
section
variable {b : Nat} {s : List UInt8} {r : BRd} {v : Value}
theorem putbytes_c (G : Nat → Bool) (w : World) (h : RX w b s r v) :
  Calls Tryz.prog 95 #[.pointer (some ⟨b, 0, none⟩), sv G] w fun e w' => e = .returned (.int .i64 (((r.put (byNd G)).l.length : Int) - 1)) ∧ ∃ v', RX w' b s (r.put (byNd G)) v' ∧ RK w b v w' v' := by
 have hbx : Below w.heap.size w (w.alloc (.cells #[.int .u64 (wd G 0), .int .u64 (wd G 1), .int .u64 (wd G 2), .int .u64 (wd G 3)] 25)) := (Below.refl _ w).alloc (Nat.le_refl _) _
 have hp := rput_c (byNd G) _ (h.below hbx)
 have HK := Lib.hid (RK.below (b := b) (v := v) hbx)
 unfold byNd at hp ⊢
 simp only at hp
 have HP := Lib.hid hp
 clear hp h hbx
 unfold sv
 go_enter Tryz.func95, Tryz.ntmps95
 go_wp2_with fail
 refine HP.out.mono ?_
 rintro e w2 ⟨rfl, v', hx, hk⟩
 have HX := Lib.hid hx
 have HK2 := Lib.hid (HK.out.trans hk)
 clear hx hk HP HK
 go_wp2
 go_ret
 exact ⟨rfl, v', HX.out, HK2.out⟩
theorem ref_c (n a : Nat) (hn : n ≤ 9) (w : World) (h : RX w b s r v) :
  Calls Tryz.prog 115 #[.pointer (some ⟨b, 0, none⟩), .int .i64 (n : Int), .int .i64 (a : Int)] w (ROut w b s v (fun _ : Unit => .tuple #[]) (if !r.en n then .error (44, a) else .ok ((), r.put ⟨8, 0, 0, 0, 0, 0, 0, 0, 0, (n : Int)⟩))) := by
 have hc : w.cell? ⟨b, 4 + n, none⟩ = some (.bool (r.en n)) := by
  rw [h.cell]
  rcases (by omega : n = 0 ∨ n = 1 ∨ n = 2 ∨ n = 3 ∨ n = 4 ∨ n = 5 ∨ n = 6 ∨ n = 7 ∨ n = 8 ∨ n = 9) with rfl | rfl | rfl | rfl | rfl | rfl | rfl | rfl | rfl | rfl <;> rfl
 have hi : (0 : Int) ≤ (n : Int) ∧ (n : Int) < 10 := by omega
 have hp := rput_c ⟨8, 0, 0, 0, 0, 0, 0, 0, 0, (n : Int)⟩ w h
 simp only at hp
 have HP := Lib.hid hp
 have HW := Lib.hid (wrong_c 44 (a : Int) w)
 have HR0 := Lib.hid (RK.refl (w := w) (b := b) (v := v))
 cases he : r.en n with
 | false =>
  rw [he] at hc
  clear hp HP h he
  go_enter Tryz.func115, Tryz.ntmps115
  go_wp2_with fail
  refine HW.out.mono ?_
  rintro e w2 ⟨rfl, rfl⟩
  unfold Pan
  go_wp2
  exact ⟨rfl, ROut.no rfl HR0.out⟩
 | true =>
  rw [he] at hc
  clear hp h he HW
  go_enter Tryz.func115, Tryz.ntmps115
  go_wp2_with fail
  refine HP.out.mono ?_
  rintro e w2 ⟨rfl, v', hx, hk⟩
  have HX := Lib.hid hx
  have HK := Lib.hid hk
  clear hx hk HP
  go_wp2
  go_end0
  exact ROut.yes (α := Unit) (a := ()) rfl HX.out HK.out
end
end Go.Proofs.YtkmfncajdkdenaaGreatDoor
namespace Go.Proofs.YtkmfncajdkdenaaGreatDoor
open Go.RowKit
theorem slice_at (s : List UInt8) (a : Nat) (ha : a ≤ s.length) (W : World) : (Instr.slice 9 (.string ⟨s.toArray⟩) (some (.int .i64 (a : Int))) none none).run Tryz.prog W = .ok (.string ⟨(s.drop a).toArray⟩) W := by
 have hsz : (⟨s.toArray⟩ : ByteArray).size = s.length := by simp [ByteArray.size]
 have e : (⟨s.toArray⟩ : ByteArray).extract a s.length = ⟨(s.drop a).toArray⟩ := by rw [← drop_arr, hsz]
 rw [run_slice_string_from_if (P := Tryz.prog) W 9 _ .i64 (a : Int) Tryz.underlying9, if_pos ⟨by omega, by rw [hsz]; omega⟩, hsz]
 rw [show ((a : Int)).toNat = a by omega, e]
section
variable {b : Nat} {s : List UInt8} {r : BRd} {v : Value}
theorem bracketr_c (a : Nat) (ha : a ≤ s.length) (w : World) (h : RX w b s r v) (hm : MaxL w) :
  Calls Tryz.prog 96 #[.pointer (some ⟨b, 0, none⟩), .int .i64 (a : Int)] w (ROut w b s v (fun _ : Unit => .tuple #[]) (match brkP (s.drop a) with
   | none => .error (42, a)
   | some (G, n) => .ok ((), (r.to (a + n)).put (byNd G)))) := by
 have hs := h.s
 have hlt := h.lt
 have d0 : w.cell? ⟨b, 0, none⟩ = some (.string ⟨s.toArray⟩) := (h.cell 0).trans rfl
 have hsl := fun W => slice_at s a ha W
 have hB := bracket_c (s.drop a) (by rw [List.length_drop]; omega) w hm
 cases hq : brkP (s.drop a) with
 | none =>
  rw [hq] at hB
  have HB := Lib.hid hB
  have HW := Lib.hid fun w => wrong_c 42 (a : Int) w
  clear hB hq h hm
  go_enter Tryz.func96, Tryz.ntmps96
  go_wp2_with fail
  refine HB.out.mono ?_
  rintro e w1 ⟨rfl, hB1⟩
  have HK := Lib.hid (RK.below (b := b) (v := v) (hB1.alloc hB1.size (.cells #[.int .u64 0, .int .u64 0, .int .u64 0, .int .u64 0] 25)))
  rw [sv_none]
  go_wp2_with fail
  refine (HW.out _).mono ?_
  rintro e w2 ⟨rfl, rfl⟩
  unfold Pan
  go_wp2
  exact ⟨rfl, ROut.no rfl HK.out⟩
 | some q =>
  obtain ⟨G, n⟩ := q
  rw [hq] at hB
  have hle := brkP_le hq
  simp only [List.length_drop] at hle
  have hn : a + n ≤ s.length := by omega
  have HB := Lib.hid hB
  have HPB := Lib.hid fun w1 h1 => putbytes_c (r := r.to (a + n)) (v := v) (b := b) (s := s) G w1 h1
  have ew : IntKind.i64.wrap ((a : Int) + (n : Int)) = (a : Int) + (n : Int) := by simp [IntKind.wrap, IntKind.signed, IntKind.bits]; omega
  have H := Lib.hid h
  clear hB hq h hm
  go_enter Tryz.func96, Tryz.ntmps96
  go_wp2_with fail
  refine HB.out.mono ?_
  rintro e w1 ⟨rfl, hB1⟩
  have h1 := H.out.below hB1
  have h1l := h1.lt
  have f1 := h1.fz 1
  have c1 : w1.cell? ⟨b, 1, none⟩ = some (.int .i64 (r.p : Int)) := (h1.cell 1).trans rfl
  have v1 := Four.new w1 25 (.int .u64 (wd G 0)) (.int .u64 (wd G 1)) (.int .u64 (wd G 2)) (.int .u64 (wd G 3))
  have h2 := h1.row_but (j := 1) (.int .i64 ((a : Int) + (n : Int))) (r.to (a + n)) (by rw [← Int.natCast_add]; rfl) rfl hn
  have h3 := h2.below ((Below.refl _ _).alloc (Nat.le_refl _) (.cells #[.int .u64 (wd G 0), .int .u64 (wd G 1), .int .u64 (wd G 2), .int .u64 (wd G 3)] 25))
  have k2 := (RK.below (b := b) (v := v) hB1).set 1 (.int .i64 ((a : Int) + (n : Int)))
  have k3 := k2.trans (RK.below (b := b) (v := v) ((Below.refl _ _).alloc (Nat.le_refl _) (.cells #[.int .u64 (wd G 0), .int .u64 (wd G 1), .int .u64 (wd G 2), .int .u64 (wd G 3)] 25)))
  have H3 := Lib.hid h3
  have K3 := Lib.hid k3
  clear h1 v1 h2 h3 k2 k3 HB H hB1
  simp only [sv] at HPB ⊢
  go_wp2_with fail
  refine (HPB.out _ H3.out).mono ?_
  rintro e w4 ⟨rfl, v', hx, hk⟩
  have HX := Lib.hid hx
  have HK := Lib.hid (K3.out.trans hk)
  clear hx hk HPB H3 K3
  go_wp2
  go_end0
  exact ROut.yes (α := Unit) (a := ()) rfl HX.out HK.out
end
end Go.Proofs.YtkmfncajdkdenaaGreatDoor
