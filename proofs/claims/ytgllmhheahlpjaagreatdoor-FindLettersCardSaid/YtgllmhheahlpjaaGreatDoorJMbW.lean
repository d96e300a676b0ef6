/- A trial: stateOf. -/
import Derived.Test.YtgllmhheahlpjaaGreatDoorJMbV
import Derived.Test.YtgllmhheahlpjaaGreatDoorJMbS
import Derived.Deep.RegionHeld3
import Derived.Laws.Rows
set_option linter.unusedVariables false
set_option linter.unusedSimpArgs false
set_option maxRecDepth 100000
set_option maxHeartbeats 40000000
namespace Go.Proofs.YtgllmhheahlpjaaGreatDoor
open Go.RowKit Go.Maps Go.WideMaps Go.Proofs.YtgllmhheahlpjaaGreatDoor.Fl
def frO : Option (Nat × Nat) → Int
 | some (a, _) => a
 | none => -1
def toO : Option (Nat × Nat) → Int
 | some (_, b) => b
 | none => -1
theorem span_some (a b : Nat) (h1 : a ≤ b) (h2 : b ≤ 999999999) : sp (floatOfInt .f64 (a : Int)) (floatOfInt .f64 (b : Int)) = some ((a : Int), (b : Int)) := by
 have hv : ∀ a : Nat, a ≤ 999999999 → val (floatOfInt .f64 (a : Int)) = some (a : Int) := fun a h => val_floatOfInt (by have : (2 : Nat) ^ 53 = 9007199254740992 := rfl; omega)
 exact sp_of (hv a (by omega)) (hv b h2) (by omega) (by omega) (by omega)
theorem from_sp (o : Option (Nat × Nat)) (hok : ∀ a b, o = some (a, b) → a ≤ b ∧ b ≤ 999999999) (w : World) : Calls Tryz.prog 36 #[spV o] w fun e w' => e = .returned (.int .i64 (frO o)) ∧ w' = w := by
 cases o with
 | none =>
  refine (from_no NEGB NEGB w (by unfold sp; rw [val_neg]; rfl)).mono ?_
  rintro e w' ⟨h1, h2⟩; exact ⟨h1, h2.symm⟩
 | some p =>
  obtain ⟨a, b⟩ := p
  obtain ⟨h1, h2⟩ := hok a b rfl
  refine (from_yes _ _ a b w (span_some a b h1 h2)).mono ?_
  rintro e w' ⟨h1, h2⟩; exact ⟨h1, h2.symm⟩
theorem to_sp (o : Option (Nat × Nat)) (hok : ∀ a b, o = some (a, b) → a ≤ b ∧ b ≤ 999999999) (w : World) : Calls Tryz.prog 37 #[spV o] w fun e w' => e = .returned (.int .i64 (toO o)) ∧ w' = w := by
 cases o with
 | none =>
  refine (to_no NEGB NEGB w (by unfold sp; rw [val_neg]; rfl)).mono ?_
  rintro e w' ⟨h1, h2⟩; exact ⟨h1, h2.symm⟩
 | some p =>
  obtain ⟨a, b⟩ := p
  obtain ⟨h1, h2⟩ := hok a b rfl
  refine (to_yes _ _ a b w (span_some a b h1 h2)).mono ?_
  rintro e w' ⟨h1, h2⟩; exact ⟨h1, h2.symm⟩
theorem parts_on {G : Gs} {had : Cp} {g : Nat} (h : G g = true) : partsOf G had g = (frO (had g), toO (had g)) := by
 unfold partsOf
 rw [if_pos h]
 cases had g with
 | none => rfl
 | some p => rfl
theorem parts_off {G : Gs} {had : Cp} {g : Nat} (h : G g = false) : partsOf G had g = (0, 0) := by
 unfold partsOf
 rw [if_neg (by simp [h])]
theorem Keeps.setNew {S : Nat → Prop} {a b : World} (h : Keeps S a b) {p : Addr} (hp : a.heap.size ≤ p.block) (u : Value) : Keeps S a (b.setCell p u) :=
 ⟨h.os, h.tape, h.output, by have := h.size; simpa [World.setCell] using this, fun i hi hs => (Below.heap_setCell _ _ _ _ (fun e => by omega)).trans (h.block i hi hs)⟩
def pcell (P : Nat → Int × Int) (k i : Nat) : Value := if i < 2 * k then .int .i64 (if i % 2 = 0 then (P (i / 2)).1 else (P (i / 2)).2) else .int .i64 0
theorem Keeps.drewN {S : Nat → Prop} {a b : World} (h : Keeps S a b) (n : Nat) : Keeps S a (b.drewN n) := ⟨h.os, h.tape, h.output, h.size, h.block⟩
theorem VRow.other {w : World} {b n : Nat} {t : TypeId} {V : Nat → Value} (h : VRow w b n t V) {p : Addr} (hp : b ≠ p.block) (u : Value) : VRow (w.setCell p u) b n t V := ⟨(Below.heap_setCell w p u b hp).trans h.heap⟩
theorem numL_in {es : List Lit} {l : Lit} (h : l ∈ es) : (numL es l).isSome = true := by
 unfold numL
 cases hp : pos es l with
 | none => exact absurd h (pos_none.1 hp)
 | some k => rfl
theorem in_numL {es : List Lit} {l : Lit} (h : (numL es l).isSome = true) : l ∈ es := by
 unfold numL at h
 cases hp : pos es l with
 | none => rw [hp] at h; cases h
 | some k => exact List.mem_of_getElem? (pos_lt hp).2
theorem pcell_off {P : Nat → Int × Int} {k : Nat} (h : P k = (0, 0)) : pcell P k = pcell P (k + 1) := by
 funext i
 unfold pcell
 by_cases h1 : i < 2 * k
 ·have a : i < 2 * (k + 1) := by omega
  simp only [h1, a, if_true]
 ·by_cases h2 : i < 2 * (k + 1)
  ·have e : i / 2 = k := by omega
   simp only [h1, h2, if_true, if_false, e, h]
   split <;> rfl
  ·simp only [h1, h2, if_false]
theorem pcell_on {P : Nat → Int × Int} {k : Nat} {a b : Int} (h : P k = (a, b)) : (fun i => if i = k * 2 + 1 then .int .i64 b else if i = k * 2 then .int .i64 a else pcell P k i) = pcell P (k + 1) := by
 funext i
 unfold pcell
 by_cases e1 : i = k * 2 + 1
 ·subst e1
  have q : (k * 2 + 1) / 2 = k := by omega
  have r : ¬ (k * 2 + 1) % 2 = 0 := by omega
  have t : k * 2 + 1 < 2 * (k + 1) := by omega
  simp only [q, r, t, h, if_true, if_false]
 ·by_cases e2 : i = k * 2
  ·subst e2
   have q : (k * 2) / 2 = k := by omega
   have r : (k * 2) % 2 = 0 := by omega
   have t : k * 2 < 2 * (k + 1) := by omega
   simp only [e1, q, r, t, h, if_true, if_false]
  ·simp only [e1, e2, if_false]
   by_cases h1 : i < 2 * k
   ·have a : i < 2 * (k + 1) := by omega
    simp only [h1, a, if_true]
   ·have a : ¬ i < 2 * (k + 1) := by omega
    simp only [h1, a, if_false]
theorem capBlk (w : World) (had : Cp) : Blk (w.alloc (.cells (cH had) 27)) w.heap.size (cH had) 27 := Blk.new _ _ _
theorem capBlk.at {w : World} {b : Nat} {had : Cp} (h : Blk w b (cH had) 27) (g : Nat) (hg : g < 10) : w.cell? ⟨b, g, none⟩ = some (spV (had g)) := by
 rw [h.cell]
 rcases (by omega : g = 0 ∨ g = 1 ∨ g = 2 ∨ g = 3 ∨ g = 4 ∨ g = 5 ∨ g = 6 ∨ g = 7 ∨ g = 8 ∨ g = 9) with rfl | rfl | rfl | rfl | rfl | rfl | rfl | rfl | rfl | rfl <;> rfl
theorem capBlk.ten {w : World} {b : Nat} {had : Cp} (h : Blk w b (cH had) 27) : w.cell? ⟨b, 0, none⟩ = some (spV (had 0)) ∧ w.cell? ⟨b, 1, none⟩ = some (spV (had 1)) ∧ w.cell? ⟨b, 2, none⟩ = some (spV (had 2)) ∧ w.cell? ⟨b, 3, none⟩ = some (spV (had 3)) ∧ w.cell? ⟨b, 4, none⟩ = some (spV (had 4)) ∧ w.cell? ⟨b, 5, none⟩ = some (spV (had 5)) ∧ w.cell? ⟨b, 6, none⟩ = some (spV (had 6)) ∧ w.cell? ⟨b, 7, none⟩ = some (spV (had 7)) ∧ w.cell? ⟨b, 8, none⟩ = some (spV (had 8)) ∧ w.cell? ⟨b, 9, none⟩ = some (spV (had 9)) := ⟨capBlk.at h 0 (by decide), capBlk.at h 1 (by decide), capBlk.at h 2 (by decide), capBlk.at h 3 (by decide), capBlk.at h 4 (by decide), capBlk.at h 5 (by decide), capBlk.at h 6 (by decide), capBlk.at h 7 (by decide), capBlk.at h 8 (by decide), capBlk.at h 9 (by decide)⟩
theorem run_load_pt {W : World} {b : Nat} {P : Nat → Int × Int} (h : VRow W b 20 172 (pcell P 10)) {o : Oper} {ev : Operand → Value} {x : Operand} (ho : o.op = .load 172 x) (hx : ev x = .pointer (some ⟨b, 0, none⟩)) :
  (execOp ev o).run Tryz.prog W = .ok (.value (ptV P)) W := by
 have hl : (loadVar 172 ⟨b, 0, none⟩).run Tryz.prog W = .ok (.agg ((List.range 20).map (pcell P 10)).toArray) W := run_loadVar_row W b 172 172 _ (0, 0) _ h.heap partsHu rfl (by kernel_rfl)
 have hv : Value.agg ((List.range 20).map (pcell P 10)).toArray = ptV P := rfl
 rw [hv] at hl
 unfold execOp
 simp only [ho, hx, Instr.loadAt, Instr.sureAddr, Sem.run_bind, Sem.run_pure, Result.andThen_ok, hl]
section
variable {X : Nat} {v : TrV} {s : List UInt8} {xs : List Nd} {B : Nat} {c1 : Lit → Nat} {n1 : Nat} {P1 : Lit → Prop} {c2 : Lit → Nat} {n2 : Nat} {E : Nat → Prop} {es : List Lit}
theorem stateof_c (fx : Fx v s xs B P1) (i p c : Nat) (t : T) (had : Cp) (hi : i < v.n) (ht : Sub (fun i => xs[i]?) t i) (hc : CapOk s.length had) (w : World) (h : Iv X v s xs B c1 n1 P1 c2 n2 E es w) (hE : ∀ b, E b → b < w.heap.size) (hbn : ¬ E v.bn) :
  Calls Tryz.prog 108 #[.pointer (some ⟨X, 0, none⟩), .int .i64 i, .int .i64 p, .int .i64 c, capV had] w fun e w' => ∃ (fs : List Lit) (q : Nat), e = .returned (.agg #[.int .i64 i, .int .i64 p, .int .i64 c, .int .i64 q]) ∧ es <+: fs ∧ nOf fs (semT s t).asked had = some q ∧ q ≤ n1 ∧ Iv X v s xs B c1 n1 P1 c2 n2 E fs w' ∧ Keeps (fun b => b = v.bn) w w' := by
 have hk0 : ∀ o, Keeps E w (w.alloc o) := fun o => (Keeps.refl E w).alloc o
 have h2 := h.keeps ((hk0 (.cells (cH had) 27)).alloc (.cells #[.int .i64 0, .int .i64 0, .int .i64 0, .int .i64 0] 142))
 have hsz2 : ((w.alloc (.cells (cH had) 27)).alloc (.cells #[.int .i64 0, .int .i64 0, .int .i64 0, .int .i64 0] 142)).heap.size = w.heap.size + 2 := by simp
 have r0 := (h2.role hi ht).c0
 have x2 := h2.tr.c2
 have hcb := (capBlk w had).alloc (.cells #[.int .i64 0, .int .i64 0, .int .i64 0, .int .i64 0] 142)
 have h4 := Four.new (w.alloc (.cells (cH had) 27)) 142 (.int .i64 0) (.int .i64 0) (.int .i64 0) (.int .i64 0)
 rw [World.size_alloc] at h4
 have hn := fx.n2
 have H2 := Lib.hid h2
 by_cases hno : noG (semT s t).asked = true
 ·have hz := gw_zero.2 hno
  rw [hz] at r0
  have HNO := Lib.hid hno
  have q4 := h4.set (.int .i64 i) (.int .i64 p) (.int .i64 c) (.int .i64 0)
  have g0 := h4.fz 0; have g1 := h4.fz 1; have g2 := h4.fz 2; have g3 := h4.fz 3
  have HK : Hid (∀ o, ∀ S, Keeps S w ((w.alloc (.cells (cH had) 27)).alloc o)) := Lib.hid (fun o S => ((Keeps.refl S w).alloc _).alloc _)
  have HH := Lib.hid h
  clear hz h hk0 h2 hcb
  unfold capV
  go_enter Tryz.func108, Tryz.ntmps108
  go_wp2
  have e0 := q4.c0; have e1 := q4.c1; have e2 := q4.c2; have e3 := q4.c3
  refine bodyPost_ret (v := .agg #[.int .i64 i, .int .i64 p, .int .i64 c, .int .i64 0]) (by simp [results, Tryz.results108, go_sem, e0, e1, e2, e3]) rfl ⟨es, 0, rfl, List.prefix_refl _, ?_, by omega, HH.out.keeps (HK.out _ E), HK.out _ _⟩
  unfold nOf; rw [if_pos HNO.out]
 ·have HNO := Lib.hid hno
  have hsl := fx.sl
  have HOK := Lib.hid (fun k a b (e : had k = some (a, b)) => (show a ≤ b ∧ b ≤ 999999999 from by have := hc k a b e; omega))
  have hkey := pkey_of (G := (semT s t).asked) hc (by omega)
  obtain ⟨G, hG⟩ : ∃ G, G = (semT s t).asked := ⟨_, rfl⟩
  have HGG := Lib.hid hG
  rw [← hG] at r0 hno hkey
  have hz : gw G ≠ 0 := fun e => hno (gw_zero.1 e)
  have hzb : ((gw G : Int) == 0) = false := by rw [beq_eq_false_iff_ne]; omega
  have HON := Lib.hid (fun g (h : G g = true) => parts_on (had := had) h)
  have HOFF := Lib.hid (fun g (h : G g = false) => parts_off (had := had) h)
  obtain ⟨P, hP⟩ : ∃ P, P = partsOf G had := ⟨_, rfl⟩
  rw [← hP] at hkey HON HOFF
  have HP := Lib.hid hP
  have HS := Lib.hid (fun n hn w => ghas_c G n hn w)
  have HH := Lib.hid h
  have HKEY := Lib.hid hkey
  have HC := Lib.hid hc
  have HX := Lib.hid fx
  generalize gw G = gG at *
  clear hno hz h hk0 h2 H2 hP hG hkey hc fx
  unfold capV
  go_enter Tryz.func108, Tryz.ntmps108
  go_wp2
  clear r0 x2
  go_loopw [28] (fun i wr => ∃ k : Nat, k ≤ 10 ∧ i = .int .i64 k ∧ VRow wr (w.heap.size + 2) 20 172 (pcell P k) ∧ Blk wr w.heap.size (cH had) 27 ∧ Four wr (w.heap.size + 1) 142 (.int .i64 0) (.int .i64 0) (.int .i64 0) (.int .i64 0) ∧ ∀ S, Keeps S w wr) (fun i _ => 10 - (RowKit.intOf i).toNat)
  case atStart =>
   have hv := VRow.new ((w.alloc (.cells (cH had) 27)).alloc (.cells #[.int .i64 0, .int .i64 0, .int .i64 0, .int .i64 0] 142)) 20 172 (pcell P 0)
   rw [hsz2] at hv
   exact ⟨0, by omega, rfl, hv, hcb.alloc _, h4.alloc _, fun S => (((Keeps.refl S w).alloc _).alloc _).alloc _⟩
  case round =>
   obtain ⟨k, hk, rfl, hr, hb, hf, hK⟩ := hrel
   by_cases hlt : k < 10
   ·have c0 := capBlk.at hb k hlt
    have z0 := hr.fz (k * 2)
    have z1 := hr.fz (k * 2 + 1)
    go_wp2_with fail
    refine (HS.out k hlt _).mono ?_
    rintro e w2 ⟨rfl, rfl⟩
    cases hG : G k with
    | false =>
     go_wp2
     go_roundw
     case rel =>
      refine ⟨k + 1, by omega, by simp, ?_, hb, hf, hK⟩
      have e := pcell_off (HOFF.out k hG)
      rw [← e]; exact hr
     case measure => (simp [RowKit.intOf]) <;> omega
    | true =>
     have hPk := HON.out k hG
     have hcell : w2.drew.cell? ⟨w.heap.size, k, none⟩ = some (spV (had k)) := c0
     have hV := ((hr.set (k * 2) (.int .i64 (frO (had k)))).set (k * 2 + 1) (.int .i64 (toO (had k)))).drew
     rw [pcell_on hPk] at hV
     have hB2 := ((hb.other (p := ⟨w.heap.size + 2, k * 2, none⟩) (by simp) (.int .i64 (frO (had k)))).other (p := ⟨w.heap.size + 2, k * 2 + 1, none⟩) (by simp) (.int .i64 (toO (had k)))).drew
     have hF2 := ((hf.other (p := ⟨w.heap.size + 2, k * 2, none⟩) (by simp) (.int .i64 (frO (had k)))).other (p := ⟨w.heap.size + 2, k * 2 + 1, none⟩) (by simp) (.int .i64 (toO (had k)))).drew
     have hK2 := fun S => (((hK S).setNew (p := ⟨w.heap.size + 2, k * 2, none⟩) (by simp) (.int .i64 (frO (had k)))).setNew (p := ⟨w.heap.size + 2, k * 2 + 1, none⟩) (by simp) (.int .i64 (toO (had k)))).drew
     have k0 := hr.cell (k * 2) (by omega)
     have k1 := hr.cell (k * 2 + 1) (by omega)
     have HEND := Lib.hid (And.intro hV (And.intro hB2 (And.intro hF2 hK2)))
     have HF := Lib.hid (fun w => from_sp (had k) (HOK.out k) w)
     have HT := Lib.hid (fun w => to_sp (had k) (HOK.out k) w)
     clear hV hB2 hF2 hK2 hcb h4 hsz2 hb hf hr hK
     go_wp2_with fail
     refine wp_region_noPanic ?_
     refine wp_region_held_drew (S := fun w' => w'.cell? ⟨w.heap.size, k, none⟩ = some (spV (had k))) (by kernel_rfl) ?_ (fun hHeld => ?_)
     ·(try dsimp only); exact hcell
     refine tk (i := 0) (v := ?_) rfl ?_ ?_; rotate_left
     ·(intro w hSw; (try dsimp only at hSw); go_simp); (try with_reducible rfl)
     try simp only [Act.put, tkS]
     refine tk (i := 1) (v := ?_) rfl ?_ ?_; rotate_left
     ·(intro w hSw; (try dsimp only at hSw); go_simp); (try with_reducible rfl)
     try simp only [Act.put, tkS]
     refine tk (i := 2) (v := ?_) rfl ?_ ?_; rotate_left
     ·(intro w hSw; (try dsimp only at hSw); go_simp); (try with_reducible rfl)
     try simp only [Act.put, tkS]
     refine tk (i := 3) (v := ?_) rfl ?_ ?_; rotate_left
     ·(intro w hSw; (try dsimp only at hSw); go_simp); (try with_reducible rfl)
     try simp only [Act.put, tkS]
     refine tk (i := 5) (v := ?_) rfl ?_ ?_; rotate_left
     ·(intro w hSw; (try dsimp only at hSw); go_simp); (try with_reducible rfl)
     try simp only [Act.put, tkS]
     refine tk (i := 6) (v := ?_) rfl ?_ ?_; rotate_left
     ·(intro w hSw; (try dsimp only at hSw); go_simp); (try with_reducible rfl)
     try simp only [Act.put, tkS]
     refine tk (i := 7) (v := ?_) rfl ?_ ?_; rotate_left
     ·(intro w hSw; (try dsimp only at hSw); go_simp); (try with_reducible rfl)
     try simp only [Act.put, tkS]
     refine wpAnyH_ready (rs := [4]) (by kernel_rfl) (by simp) ?_
     refine AllReadyH.cons rfl (fun K hK => ?_) ?_
     rotate_left
     ·exact AllReadyH.nil
     go_simp
     refine (HF.out _).mono ?_
     rintro e wN ⟨rfl, rfl⟩
     refine hK.out _ _ ?_ (fun hHeld => ?_)
     ·(try dsimp only); exact hHeld
     clear hK K
     try simp only [Act.put, tkS]
     refine wpAnyH_ready (rs := [8]) (by kernel_rfl) (by simp) ?_
     refine AllReadyH.cons rfl (fun K hK => ?_) ?_
     rotate_left
     ·exact AllReadyH.nil
     go_simp
     refine (HT.out _).mono ?_
     rintro e wN ⟨rfl, rfl⟩
     refine hK.out _ _ ?_ (fun hHeld => ?_)
     ·(try dsimp only); exact hHeld
     clear hK K
     try simp only [Act.put, tkS]
     refine tk (i := 9) (v := ?_) rfl ?_ ?_; rotate_left
     ·(intro w hSw; (try dsimp only at hSw); go_simp); (try with_reducible rfl)
     try simp only [Act.put, tkS]
     refine tk (i := 10) (v := ?_) rfl ?_ ?_; rotate_left
     ·(intro w hSw; (try dsimp only at hSw); go_simp); (try with_reducible rfl)
     try simp only [Act.put, tkS]
     refine wpAnyH_ready (rs := [11]) (by kernel_rfl) (by simp) ?_
     refine AllReadyH.cons rfl (fun K hK => ?_) ?_
     rotate_left
     ·exact AllReadyH.nil
     go_simp
     refine hK.out _ _ ?_ (fun hHeld => ?_)
     ·(try dsimp only); exact capBlk.at HEND.out.2.1 k hlt
     clear hK K
     try simp only [Act.put, tkS]
     refine wpAnyH_done (by kernel_rfl) ?_ _
     refine NoPanic.normal ?_
     go_wp2
     go_roundw
     case rel => exact ⟨k + 1, by omega, by simp, HEND.out.1, HEND.out.2.1, HEND.out.2.2.1, HEND.out.2.2.2⟩
     case measure => (simp [RowKit.intOf]) <;> omega
   ·obtain rfl : k = 10 := by omega
    clear hcb h4 hsz2
    have hv := HH.out.keeps (hK E)
    obtain ⟨hfx, hso, hone⟩ := HX.out.ok i t hi ht
    have x3 := hv.tr.c3
    have hlook := fun W (hW : Keeps E wr W) => (hv.keeps hW).nums.look partsKeyed Tryz.underlying98 (z := .int .i64 0) (by intro w; kernel_rfl) HKEY.out
    have l1 := hlook _ (Keeps.refl E wr).drew
    have l2 := hlook _ (Keeps.refl E wr).drew.drew
    have g0 := hf.fz 0; have g1 := hf.fz 1; have g2 := hf.fz 2; have g3 := hf.fz 3
    have f0 := hf.c0; have f1 := hf.c1; have f2 := hf.c2; have f3 := hf.c3
    have HV := Lib.hid (And.intro hv (And.intro hf hK))
    have HSO := Lib.hid hso
    have HONE := Lib.hid hone
    clear hb hf hK hv hlook hso hone
    cases hpos : pos es (pkey P) with
    | some k0 =>
     obtain ⟨q, hq⟩ : ∃ q : Nat, q = k0 + 1 := ⟨_, rfl⟩
     have hnn : numL es (pkey P) = some (.int .i64 (q : Int)) := by unfold numL; rw [hpos, hq]; rfl
     rw [hnn, Option.getD_some] at l1 l2
     have hqb : ((q : Int) == 0) = false := by rw [beq_eq_false_iff_ne]; omega
     have HQ := Lib.hid (And.intro hpos hq)
     have HFIN : Hid ((((((wr.setCell ⟨w.heap.size + 1, 0, none⟩ (.int .i64 i)).setCell ⟨w.heap.size + 1, 1, none⟩ (.int .i64 p)).setCell ⟨w.heap.size + 1, 2, none⟩ (.int .i64 c)).setCell ⟨w.heap.size + 1, 3, none⟩ (.int .i64 q)).drew.drew.cell? ⟨X, 3, none⟩ = some (.map (some v.bn)) ∧ VRow ((((wr.setCell ⟨w.heap.size + 1, 0, none⟩ (.int .i64 i)).setCell ⟨w.heap.size + 1, 1, none⟩ (.int .i64 p)).setCell ⟨w.heap.size + 1, 2, none⟩ (.int .i64 c)).setCell ⟨w.heap.size + 1, 3, none⟩ (.int .i64 q)).drew.drew (w.heap.size + 2) 20 172 (pcell P 10)) ∧ Four ((((wr.setCell ⟨w.heap.size + 1, 0, none⟩ (.int .i64 i)).setCell ⟨w.heap.size + 1, 1, none⟩ (.int .i64 p)).setCell ⟨w.heap.size + 1, 2, none⟩ (.int .i64 c)).setCell ⟨w.heap.size + 1, 3, none⟩ (.int .i64 q)).drew.drew (w.heap.size + 1) 142 (.int .i64 i) (.int .i64 p) (.int .i64 c) (.int .i64 q) ∧ ∀ S, Keeps S w ((((wr.setCell ⟨w.heap.size + 1, 0, none⟩ (.int .i64 i)).setCell ⟨w.heap.size + 1, 1, none⟩ (.int .i64 p)).setCell ⟨w.heap.size + 1, 2, none⟩ (.int .i64 c)).setCell ⟨w.heap.size + 1, 3, none⟩ (.int .i64 q)).drew.drew) := by
      have hKW : ∀ S, Keeps S w ((((wr.setCell ⟨w.heap.size + 1, 0, none⟩ (.int .i64 i)).setCell ⟨w.heap.size + 1, 1, none⟩ (.int .i64 p)).setCell ⟨w.heap.size + 1, 2, none⟩ (.int .i64 c)).setCell ⟨w.heap.size + 1, 3, none⟩ (.int .i64 q)).drew.drew := fun S => ((((((HV.out.2.2 S).setNew (p := ⟨w.heap.size + 1, 0, none⟩) (by simp) _).setNew (p := ⟨w.heap.size + 1, 1, none⟩) (by simp) _).setNew (p := ⟨w.heap.size + 1, 2, none⟩) (by simp) _).setNew (p := ⟨w.heap.size + 1, 3, none⟩) (by simp) _).drew).drew
      refine Lib.hid ⟨⟨(HH.out.keeps (hKW E)).tr.c3, ?_⟩, ?_, hKW⟩
      ·exact ((((hr.other (p := ⟨w.heap.size + 1, 0, none⟩) (by simp) _).other (p := ⟨w.heap.size + 1, 1, none⟩) (by simp) _).other (p := ⟨w.heap.size + 1, 2, none⟩) (by simp) _).other (p := ⟨w.heap.size + 1, 3, none⟩) (by simp) _).drew.drew
      ·exact (HV.out.2.1.set _ _ _ _).drew.drew
     clear hpos hq hnn
     go_wp2_with fail
     refine wp_region_noPanic ?_
     refine wp_region_held_drew (S := fun w' => w'.cell? ⟨X, 3, none⟩ = some (.map (some v.bn)) ∧ VRow w' (w.heap.size + 2) 20 172 (pcell P 10)) (by kernel_rfl) ?_ (fun hHeld => ?_)
     ·(try dsimp only); exact ⟨x3, hr.drew⟩
     refine tk (i := 0) (v := ?_) rfl ?_ ?_; rotate_left
     ·(intro w hSw; (try dsimp only at hSw); have hx3 := hSw.1; go_simp); (try with_reducible rfl)
     try simp only [Act.put, tkS]
     refine tk (i := 1) (v := ?_) rfl ?_ ?_; rotate_left
     ·(intro w hSw; (try dsimp only at hSw); have hx3 := hSw.1; go_simp); (try with_reducible rfl)
     try simp only [Act.put, tkS]
     refine tk (i := 2) (v := ?_) rfl ?_ ?_; rotate_left
     ·(intro w hSw; (try dsimp only at hSw); have hx3 := hSw.1; go_simp); (try with_reducible rfl)
     try simp only [Act.put, tkS]
     refine tk (i := 3) (v := ?_) rfl ?_ ?_; rotate_left
     ·(intro w hSw; (try dsimp only at hSw); have hx3 := hSw.1; go_simp); (try with_reducible rfl)
     try simp only [Act.put, tkS]
     refine wpAnyH_take (i := 4) (v := ptV P) rfl (by kernel_rfl) (by kernel_rfl) (by kernel_rfl) (fun _ _ _ h => h) (Or.inl ⟨by kernel_rfl, fun w hSw => run_load_pt hSw.2 rfl rfl⟩) (by assumption) ?_
     try simp only [Act.put, tkS]
     refine wpAnyH_ready (rs := [5]) (by kernel_rfl) (by simp) ?_
     refine AllReadyH.cons rfl (fun K hK => ?_) ?_
     rotate_left
     ·exact AllReadyH.nil
     go_simp
     refine hK.out _ _ ?_ (fun hHeld => ?_)
     ·(try dsimp only); exact hHeld
     clear hK K
     try simp only [Act.put, tkS]
     refine tk (i := 6) (v := ?_) rfl ?_ ?_; rotate_left
     ·(intro w hSw; (try dsimp only at hSw); have hx3 := hSw.1; go_simp); (try with_reducible rfl)
     try simp only [Act.put, tkS]
     refine wpAnyH_done (by kernel_rfl) ?_ _
     refine NoPanic.normal ?_
     go_wp2_with fail
     refine wp_region_noPanic ?_
     refine wp_region_held_drew (S := fun w' => w'.cell? ⟨X, 3, none⟩ = some (.map (some v.bn)) ∧ VRow w' (w.heap.size + 2) 20 172 (pcell P 10)) (by kernel_rfl) ?_ (fun hHeld => ?_)
     ·(try dsimp only); exact ⟨x3, hr.drew.drew⟩
     refine tk (i := 0) (v := ?_) rfl ?_ ?_; rotate_left
     ·(intro w hSw; (try dsimp only at hSw); have hx3 := hSw.1; go_simp); (try with_reducible rfl)
     try simp only [Act.put, tkS]
     refine tk (i := 1) (v := ?_) rfl ?_ ?_; rotate_left
     ·(intro w hSw; (try dsimp only at hSw); have hx3 := hSw.1; go_simp); (try with_reducible rfl)
     try simp only [Act.put, tkS]
     refine tk (i := 2) (v := ?_) rfl ?_ ?_; rotate_left
     ·(intro w hSw; (try dsimp only at hSw); have hx3 := hSw.1; go_simp); (try with_reducible rfl)
     try simp only [Act.put, tkS]
     refine tk (i := 3) (v := ?_) rfl ?_ ?_; rotate_left
     ·(intro w hSw; (try dsimp only at hSw); have hx3 := hSw.1; go_simp); (try with_reducible rfl)
     try simp only [Act.put, tkS]
     refine tk (i := 4) (v := ?_) rfl ?_ ?_; rotate_left
     ·(intro w hSw; (try dsimp only at hSw); have hx3 := hSw.1; go_simp); (try with_reducible rfl)
     try simp only [Act.put, tkS]
     refine tk (i := 5) (v := ?_) rfl ?_ ?_; rotate_left
     ·(intro w hSw; (try dsimp only at hSw); have hx3 := hSw.1; go_simp); (try with_reducible rfl)
     try simp only [Act.put, tkS]
     refine tk (i := 6) (v := ?_) rfl ?_ ?_; rotate_left
     ·(intro w hSw; (try dsimp only at hSw); have hx3 := hSw.1; go_simp); (try with_reducible rfl)
     try simp only [Act.put, tkS]
     refine wpAnyH_take (i := 7) (v := ptV P) rfl (by kernel_rfl) (by kernel_rfl) (by kernel_rfl) (fun _ _ _ h => h) (Or.inl ⟨by kernel_rfl, fun w hSw => run_load_pt hSw.2 rfl rfl⟩) (by assumption) ?_
     try simp only [Act.put, tkS]
     refine wpAnyH_ready (rs := [8]) (by kernel_rfl) (by simp) ?_
     refine AllReadyH.cons rfl (fun K hK => ?_) ?_
     rotate_left
     ·exact AllReadyH.nil
     go_simp
     refine hK.out _ _ ?_ (fun hHeld => ?_)
     ·(try dsimp only); exact hHeld
     clear hK K
     try simp only [Act.put, tkS]
     refine tk (i := 9) (v := ?_) rfl ?_ ?_; rotate_left
     ·(intro w hSw; (try dsimp only at hSw); have hx3 := hSw.1; go_simp); (try with_reducible rfl)
     try simp only [Act.put, tkS]
     refine wpAnyH_ready (rs := [10]) (by kernel_rfl) (by simp) ?_
     refine AllReadyH.cons rfl (fun K hK => ?_) ?_
     rotate_left
     ·exact AllReadyH.nil
     go_simp
     refine hK.out _ _ ?_ (fun hHeld => ?_)
     ·(try dsimp only); exact HFIN.out.1
     clear hK K
     try simp only [Act.put, tkS]
     refine wpAnyH_done (by kernel_rfl) ?_ _
     refine NoPanic.normal ?_
     go_wp2
     have e0 := HFIN.out.2.1.c0; have e1 := HFIN.out.2.1.c1; have e2 := HFIN.out.2.1.c2; have e3 := HFIN.out.2.1.c3
     refine bodyPost_ret (v := .agg #[.int .i64 i, .int .i64 p, .int .i64 c, .int .i64 q]) (by simp [results, Tryz.results108, go_sem, e0, e1, e2, e3]) rfl ⟨es, q, rfl, List.prefix_refl _, ?_, ?_, HH.out.keeps (HFIN.out.2.2 E), HFIN.out.2.2 _⟩
     ·unfold nOf
      rw [if_neg (by rw [← HGG.out]; exact fun e => HNO.out (by rw [← HGG.out]; exact e)), ← HGG.out, ← HP.out, HQ.out.1, HQ.out.2]
      rfl
     ·obtain ⟨m, hm, _, hlen⟩ := HV.out.1.nums.len Tryz.underlying98 3 partsKeyed
      have h1 := (pos_lt HQ.out.1).1
      have h2 := hlen es HV.out.1.nd (fun l hl => ⟨HV.out.1.ky l hl, numL_in hl⟩) (fun l _ hl => in_numL hl)
      have h3 := HQ.out.2
      omega
    | none =>
     have hnn : numL es (pkey P) = none := by unfold numL; rw [hpos]; rfl
     rw [hnn, Option.getD_none] at l1
     have hI := HH.out.fresh.keeps ((HV.out.2.2 _).drew.drew)
     obtain ⟨m, hm1, hlen, hcount⟩ := hI.nums.len Tryz.underlying98 3 partsKeyed
     have hmm : m = es.length := hcount es hI.nd (fun l hl => ⟨hI.ky l hl, numL_in hl⟩) (fun l _ hl => in_numL hl)
     have hmx := hI.nums.max
     obtain ⟨q, hq⟩ : ∃ q : Nat, q = m + 1 := ⟨_, rfl⟩
     have hqv : (m : Int) + 1 = (q : Int) := by omega
     have hp1 : P1 (pkey P) := by
      have := HX.out.P1 i t had hi ht HC.out HNO.out
      rw [← HGG.out, ← HP.out] at this
      exact this
     obtain ⟨w3, hup, hm3, hgr⟩ := hI.nums.update partsKeyed Tryz.underlying98 (val := .int .i64 (q : Int)) HKEY.out hp1
     have hfun : (fun l => @ite _ (l = pkey P) (Classical.propDecidable _) (some (Value.int .i64 (q : Int))) (numL es l)) = numL (es ++ [pkey P]) := by
      funext l
      unfold numL
      by_cases e : l = pkey P
      ·subst e
       rw [if_pos rfl, pos_new hpos, hq, hmm]; rfl
      ·rw [if_neg e, pos_other e]
     rw [hfun] at hm3
     have hK3 : Keeps (fun b => b = v.bn) wr.drew.drew w3 := (Keeps.refl _ _).grown hgr (fun k h => by cases h; rfl)
     have hI3 := hI.upNums HX.out hK3 hm3 (List.prefix_append es [pkey P]) (by
      rw [List.nodup_append]
      refine ⟨hI.nd, by simp, fun a ha b hb e => ?_⟩
      rw [List.mem_singleton] at hb
      subst hb; subst e
      exact pos_none.1 hpos ha) (fun l hl => by
      rw [List.mem_append, List.mem_singleton] at hl
      rcases hl with hl | hl
      ·exact hI.ky l hl
      ·subst hl; exact partsKeyed.key HKEY.out)
     have lbn := HH.out.nums.blt
     have hr3 : VRow w3 (w.heap.size + 2) 20 172 (pcell P 10) := ⟨(hK3.block _ hr.lt (by omega)).trans hr.heap⟩
     have hf3 : Four w3 (w.heap.size + 1) 142 (.int .i64 0) (.int .i64 0) (.int .i64 0) (.int .i64 0) := ⟨(hK3.block _ HV.out.2.1.lt (by omega)).trans HV.out.2.1.heap⟩
     have x33 := hI3.tr.c3
     have l3 := (hI3.keeps (Keeps.refl _ w3).drew).nums.look partsKeyed Tryz.underlying98 (z := .int .i64 0) (by intro w; kernel_rfl) HKEY.out
     have hn3 : numL (es ++ [pkey P]) (pkey P) = some (.int .i64 (q : Int)) := by unfold numL; rw [pos_new hpos, hq, hmm]; rfl
     rw [hn3, Option.getD_some] at l3
     have g30 := hf3.fz 0; have g31 := hf3.fz 1; have g32 := hf3.fz 2; have g33 := hf3.fz 3
     have f30 := hf3.c0; have f31 := hf3.c1; have f32 := hf3.c2; have f33 := hf3.c3
     have HQ := Lib.hid (And.intro hpos (And.intro hq (And.intro hmm hI3)))
     have HFIN : Hid ((((((w3.setCell ⟨w.heap.size + 1, 0, none⟩ (.int .i64 i)).setCell ⟨w.heap.size + 1, 1, none⟩ (.int .i64 p)).setCell ⟨w.heap.size + 1, 2, none⟩ (.int .i64 c)).setCell ⟨w.heap.size + 1, 3, none⟩ (.int .i64 q)).drew.cell? ⟨X, 3, none⟩ = some (.map (some v.bn)) ∧ VRow ((((w3.setCell ⟨w.heap.size + 1, 0, none⟩ (.int .i64 i)).setCell ⟨w.heap.size + 1, 1, none⟩ (.int .i64 p)).setCell ⟨w.heap.size + 1, 2, none⟩ (.int .i64 c)).setCell ⟨w.heap.size + 1, 3, none⟩ (.int .i64 q)).drew (w.heap.size + 2) 20 172 (pcell P 10)) ∧ Four ((((w3.setCell ⟨w.heap.size + 1, 0, none⟩ (.int .i64 i)).setCell ⟨w.heap.size + 1, 1, none⟩ (.int .i64 p)).setCell ⟨w.heap.size + 1, 2, none⟩ (.int .i64 c)).setCell ⟨w.heap.size + 1, 3, none⟩ (.int .i64 q)).drew (w.heap.size + 1) 142 (.int .i64 i) (.int .i64 p) (.int .i64 c) (.int .i64 q) ∧ Iv X v s xs B c1 n1 P1 c2 n2 E (es ++ [pkey P]) ((((w3.setCell ⟨w.heap.size + 1, 0, none⟩ (.int .i64 i)).setCell ⟨w.heap.size + 1, 1, none⟩ (.int .i64 p)).setCell ⟨w.heap.size + 1, 2, none⟩ (.int .i64 c)).setCell ⟨w.heap.size + 1, 3, none⟩ (.int .i64 q)).drew ∧ Keeps (fun b => b = v.bn) w ((((w3.setCell ⟨w.heap.size + 1, 0, none⟩ (.int .i64 i)).setCell ⟨w.heap.size + 1, 1, none⟩ (.int .i64 p)).setCell ⟨w.heap.size + 1, 2, none⟩ (.int .i64 c)).setCell ⟨w.heap.size + 1, 3, none⟩ (.int .i64 q)).drew) := by
      have hKK : Keeps (fun b => b = v.bn) w w3 := ((HV.out.2.2 _).drew.drew).trans hK3
      have hKW : Keeps (fun b => b = v.bn) w ((((w3.setCell ⟨w.heap.size + 1, 0, none⟩ (.int .i64 i)).setCell ⟨w.heap.size + 1, 1, none⟩ (.int .i64 p)).setCell ⟨w.heap.size + 1, 2, none⟩ (.int .i64 c)).setCell ⟨w.heap.size + 1, 3, none⟩ (.int .i64 q)).drew := (((((hKK).setNew (p := ⟨w.heap.size + 1, 0, none⟩) (by simp) _).setNew (p := ⟨w.heap.size + 1, 1, none⟩) (by simp) _).setNew (p := ⟨w.heap.size + 1, 2, none⟩) (by simp) _).setNew (p := ⟨w.heap.size + 1, 3, none⟩) (by simp) _).drew
      have hI4 : Iv X v s xs B c1 n1 P1 c2 n2 E (es ++ [pkey P]) ((((w3.setCell ⟨w.heap.size + 1, 0, none⟩ (.int .i64 i)).setCell ⟨w.heap.size + 1, 1, none⟩ (.int .i64 p)).setCell ⟨w.heap.size + 1, 2, none⟩ (.int .i64 c)).setCell ⟨w.heap.size + 1, 3, none⟩ (.int .i64 q)).drew := by
       have hk4 : Keeps (fun b => E b ∨ w.heap.size ≤ b) w3 ((((w3.setCell ⟨w.heap.size + 1, 0, none⟩ (.int .i64 i)).setCell ⟨w.heap.size + 1, 1, none⟩ (.int .i64 p)).setCell ⟨w.heap.size + 1, 2, none⟩ (.int .i64 c)).setCell ⟨w.heap.size + 1, 3, none⟩ (.int .i64 q)).drew := (((((Keeps.refl (fun b => E b ∨ w.heap.size ≤ b) w3).setCell (p := ⟨w.heap.size + 1, 0, none⟩) (.inr (by simp)) _).setCell (p := ⟨w.heap.size + 1, 1, none⟩) (.inr (by simp)) _).setCell (p := ⟨w.heap.size + 1, 2, none⟩) (.inr (by simp)) _).setCell (p := ⟨w.heap.size + 1, 3, none⟩) (.inr (by simp)) _).drew
       exact (hI3.keeps hk4).mono (fun b h => .inl h)
      exact Lib.hid ⟨⟨hI4.tr.c3, ((((hr3.other (p := ⟨w.heap.size + 1, 0, none⟩) (by simp) _).other (p := ⟨w.heap.size + 1, 1, none⟩) (by simp) _).other (p := ⟨w.heap.size + 1, 2, none⟩) (by simp) _).other (p := ⟨w.heap.size + 1, 3, none⟩) (by simp) _).drew⟩, (hf3.set _ _ _ _).drew, hI4, hKW⟩
     have hwr : IntKind.i64.wrap (q : Int) = (q : Int) := by
      have e : maxLen = 9223372036854775807 := by decide
      rw [IntKind.wrap_i64]
      omega
     clear hnn hI hcount hmm hmx hp1 hm3 hfun hgr hK3 hI3 hn3 hf3 lbn hq hpos
     go_wp2_with fail
     refine wp_region_noPanic ?_
     refine wp_region_held_drew (S := fun w' => w'.cell? ⟨X, 3, none⟩ = some (.map (some v.bn)) ∧ VRow w' (w.heap.size + 2) 20 172 (pcell P 10)) (by kernel_rfl) ?_ (fun hHeld => ?_)
     ·(try dsimp only); exact ⟨x3, hr.drew⟩
     refine tk (i := 0) (v := ?_) rfl ?_ ?_; rotate_left
     ·(intro w hSw; (try dsimp only at hSw); have hx3 := hSw.1; go_simp); (try with_reducible rfl)
     try simp only [Act.put, tkS]
     refine tk (i := 1) (v := ?_) rfl ?_ ?_; rotate_left
     ·(intro w hSw; (try dsimp only at hSw); have hx3 := hSw.1; go_simp); (try with_reducible rfl)
     try simp only [Act.put, tkS]
     refine tk (i := 2) (v := ?_) rfl ?_ ?_; rotate_left
     ·(intro w hSw; (try dsimp only at hSw); have hx3 := hSw.1; go_simp); (try with_reducible rfl)
     try simp only [Act.put, tkS]
     refine tk (i := 3) (v := ?_) rfl ?_ ?_; rotate_left
     ·(intro w hSw; (try dsimp only at hSw); have hx3 := hSw.1; go_simp); (try with_reducible rfl)
     try simp only [Act.put, tkS]
     refine wpAnyH_take (i := 4) (v := ptV P) rfl (by kernel_rfl) (by kernel_rfl) (by kernel_rfl) (fun _ _ _ h => h) (Or.inl ⟨by kernel_rfl, fun w hSw => run_load_pt hSw.2 rfl rfl⟩) (by assumption) ?_
     try simp only [Act.put, tkS]
     refine wpAnyH_ready (rs := [5]) (by kernel_rfl) (by simp) ?_
     refine AllReadyH.cons rfl (fun K hK => ?_) ?_
     rotate_left
     ·exact AllReadyH.nil
     go_simp
     refine hK.out _ _ ?_ (fun hHeld => ?_)
     ·(try dsimp only); exact hHeld
     clear hK K
     try simp only [Act.put, tkS]
     refine tk (i := 6) (v := ?_) rfl ?_ ?_; rotate_left
     ·(intro w hSw; (try dsimp only at hSw); have hx3 := hSw.1; go_simp); (try with_reducible rfl)
     try simp only [Act.put, tkS]
     refine wpAnyH_done (by kernel_rfl) ?_ _
     refine NoPanic.normal ?_
     go_wp2_with fail
     refine wp_region_noPanic ?_
     refine wp_region_held_drew (S := fun w' => w'.cell? ⟨X, 3, none⟩ = some (.map (some v.bn)) ∧ VRow w' (w.heap.size + 2) 20 172 (pcell P 10)) (by kernel_rfl) ?_ (fun hHeld => ?_)
     ·(try dsimp only); exact ⟨x3, hr.drew.drew⟩
     refine tk (i := 0) (v := ?_) rfl ?_ ?_; rotate_left
     ·(intro w hSw; (try dsimp only at hSw); have hx3 := hSw.1; go_simp); (try with_reducible rfl)
     try simp only [Act.put, tkS]
     refine tk (i := 1) (v := ?_) rfl ?_ ?_; rotate_left
     ·(intro w hSw; (try dsimp only at hSw); have hx3 := hSw.1; go_simp); (try with_reducible rfl)
     try simp only [Act.put, tkS]
     refine tk (i := 2) (v := ?_) rfl ?_ ?_; rotate_left
     ·(intro w hSw; (try dsimp only at hSw); have hx3 := hSw.1; go_simp); (try with_reducible rfl)
     try simp only [Act.put, tkS]
     refine tk (i := 3) (v := ?_) rfl ?_ ?_; rotate_left
     ·(intro w hSw; (try dsimp only at hSw); have hx3 := hSw.1; go_simp); (try with_reducible rfl)
     try simp only [Act.put, tkS]
     refine wpAnyH_take (i := 4) (v := ptV P) rfl (by kernel_rfl) (by kernel_rfl) (by kernel_rfl) (fun _ _ _ h => h) (Or.inl ⟨by kernel_rfl, fun w hSw => run_load_pt hSw.2 rfl rfl⟩) (by assumption) ?_
     try simp only [Act.put, tkS]
     refine tk (i := 5) (v := ?_) rfl ?_ ?_; rotate_left
     ·(intro w hSw; (try dsimp only at hSw); have hx3 := hSw.1; go_simp); (try with_reducible rfl)
     try simp only [Act.put, tkS]
     refine tk (i := 6) (v := ?_) rfl ?_ ?_; rotate_left
     ·(intro w hSw; (try dsimp only at hSw); have hx3 := hSw.1; go_simp); (try with_reducible rfl)
     try simp only [Act.put, tkS]
     refine tk (i := 7) (v := ?_) rfl ?_ ?_; rotate_left
     ·(intro w hSw; (try dsimp only at hSw); have hx3 := hSw.1; go_simp); (try with_reducible rfl)
     try simp only [Act.put, tkS]
     refine tk (i := 8) (v := ?_) rfl ?_ ?_; rotate_left
     ·(intro w hSw; (try dsimp only at hSw); have hx3 := hSw.1; go_simp); (try with_reducible rfl)
     try simp only [Act.put, tkS]
     refine wpAnyH_ready (rs := [9]) (by kernel_rfl) (by simp) ?_
     refine AllReadyH.cons rfl (fun K hK => ?_) ?_
     rotate_left
     ·exact AllReadyH.nil
     go_simp
     refine hK.out _ _ ?_ (fun hHeld => ?_)
     ·(try dsimp only); exact hHeld
     clear hK K
     try simp only [Act.put, tkS]
     refine tk (i := 10) (v := ?_) rfl ?_ ?_; rotate_left
     ·(intro w hSw; (try dsimp only at hSw); have hx3 := hSw.1; go_simp); (try with_reducible rfl)
     try simp only [Act.put, tkS]
     refine wpAnyH_ready (rs := [11]) (by kernel_rfl) (by simp) ?_
     refine AllReadyH.cons rfl (fun K hK => ?_) ?_
     rotate_left
     ·exact AllReadyH.nil
     go_simp
     refine hK.out _ _ ?_ (fun hHeld => ?_)
     ·(try dsimp only); exact ⟨x33, hr3⟩
     clear hK K
     try simp only [Act.put, tkS]
     refine wpAnyH_done (by kernel_rfl) ?_ _
     refine NoPanic.normal ?_
     go_wp2_with fail
     refine wp_region_noPanic ?_
     refine wp_region_held_drew (S := fun w' => w'.cell? ⟨X, 3, none⟩ = some (.map (some v.bn)) ∧ VRow w' (w.heap.size + 2) 20 172 (pcell P 10)) (by kernel_rfl) ?_ (fun hHeld => ?_)
     ·(try dsimp only); exact ⟨x33, hr3.drew⟩
     refine tk (i := 0) (v := ?_) rfl ?_ ?_; rotate_left
     ·(intro w hSw; (try dsimp only at hSw); have hx3 := hSw.1; go_simp); (try with_reducible rfl)
     try simp only [Act.put, tkS]
     refine tk (i := 1) (v := ?_) rfl ?_ ?_; rotate_left
     ·(intro w hSw; (try dsimp only at hSw); have hx3 := hSw.1; go_simp); (try with_reducible rfl)
     try simp only [Act.put, tkS]
     refine tk (i := 2) (v := ?_) rfl ?_ ?_; rotate_left
     ·(intro w hSw; (try dsimp only at hSw); have hx3 := hSw.1; go_simp); (try with_reducible rfl)
     try simp only [Act.put, tkS]
     refine tk (i := 3) (v := ?_) rfl ?_ ?_; rotate_left
     ·(intro w hSw; (try dsimp only at hSw); have hx3 := hSw.1; go_simp); (try with_reducible rfl)
     try simp only [Act.put, tkS]
     refine tk (i := 4) (v := ?_) rfl ?_ ?_; rotate_left
     ·(intro w hSw; (try dsimp only at hSw); have hx3 := hSw.1; go_simp); (try with_reducible rfl)
     try simp only [Act.put, tkS]
     refine tk (i := 5) (v := ?_) rfl ?_ ?_; rotate_left
     ·(intro w hSw; (try dsimp only at hSw); have hx3 := hSw.1; go_simp); (try with_reducible rfl)
     try simp only [Act.put, tkS]
     refine tk (i := 6) (v := ?_) rfl ?_ ?_; rotate_left
     ·(intro w hSw; (try dsimp only at hSw); have hx3 := hSw.1; go_simp); (try with_reducible rfl)
     try simp only [Act.put, tkS]
     refine wpAnyH_take (i := 7) (v := ptV P) rfl (by kernel_rfl) (by kernel_rfl) (by kernel_rfl) (fun _ _ _ h => h) (Or.inl ⟨by kernel_rfl, fun w hSw => run_load_pt hSw.2 rfl rfl⟩) (by assumption) ?_
     try simp only [Act.put, tkS]
     refine wpAnyH_ready (rs := [8]) (by kernel_rfl) (by simp) ?_
     refine AllReadyH.cons rfl (fun K hK => ?_) ?_
     rotate_left
     ·exact AllReadyH.nil
     go_simp
     refine hK.out _ _ ?_ (fun hHeld => ?_)
     ·(try dsimp only); exact hHeld
     clear hK K
     try simp only [Act.put, tkS]
     refine tk (i := 9) (v := ?_) rfl ?_ ?_; rotate_left
     ·(intro w hSw; (try dsimp only at hSw); have hx3 := hSw.1; go_simp); (try with_reducible rfl)
     try simp only [Act.put, tkS]
     refine wpAnyH_ready (rs := [10]) (by kernel_rfl) (by simp) ?_
     refine AllReadyH.cons rfl (fun K hK => ?_) ?_
     rotate_left
     ·exact AllReadyH.nil
     go_simp
     refine hK.out _ _ ?_ (fun hHeld => ?_)
     ·(try dsimp only); exact HFIN.out.1
     clear hK K
     try simp only [Act.put, tkS]
     refine wpAnyH_done (by kernel_rfl) ?_ _
     refine NoPanic.normal ?_
     go_wp2
     have e0 := HFIN.out.2.1.c0; have e1 := HFIN.out.2.1.c1; have e2 := HFIN.out.2.1.c2; have e3 := HFIN.out.2.1.c3
     refine bodyPost_ret (v := .agg #[.int .i64 i, .int .i64 p, .int .i64 c, .int .i64 q]) (by simp [results, Tryz.results108, go_sem, e0, e1, e2, e3]) rfl ⟨es ++ [pkey P], q, rfl, List.prefix_append _ _, ?_, ?_, HFIN.out.2.2.1, HFIN.out.2.2.2⟩
     ·unfold nOf
      rw [if_neg (by rw [← HGG.out]; exact fun e => HNO.out (by rw [← HGG.out]; exact e)), ← HGG.out, ← HP.out, pos_new HQ.out.1, HQ.out.2.1, HQ.out.2.2.1]
      rfl
     ·obtain ⟨m', hm, _, hlen'⟩ := HQ.out.2.2.2.nums.len Tryz.underlying98 3 partsKeyed
      have h2 := hlen' _ HQ.out.2.2.2.nd (fun l hl => ⟨HQ.out.2.2.2.ky l hl, numL_in hl⟩) (fun l _ hl => in_numL hl)
      rw [List.length_append, List.length_singleton] at h2
      have h3 := HQ.out.2.1
      have h4 := HQ.out.2.2.1
      omega
end
end Go.Proofs.YtgllmhheahlpjaaGreatDoor
