/- A reader: bytes, a group again, a list: the walks. -/
import Derived.Test.YthbldjiibgnfmaaGreatDoorZBrL
namespace Go.Proofs.YthbldjiibgnfmaaGreatDoor
open Go.RowKit
set_option linter.unusedVariables false
set_option linter.unusedSimpArgs false

/-- What a reading leaves: what it answers, and the reader; or what is wrong. -/
def ROut {α : Type} (w : World) (b : Nat) (s : List UInt8) (v : Value) (val : α → Value) (res : Except Er (α × BRd)) (e : Ending) (w' : World) : Prop :=
  match res with
  | .ok (a, q) => e = .returned (val a) ∧ ∃ v', RX w' b s q v' ∧ RK w b v w' v'
  | .error (z, a) => e = Pan z (a : Int) ∧ ∃ v', RK w b v w' v'
theorem ROut.yes {α : Type} {w w' : World} {b : Nat} {s : List UInt8} {v v' : Value} {val : α → Value} {res : Except Er (α × BRd)} {a : α} {q : BRd} (hr : res = .ok (a, q)) (hx : RX w' b s q v') (hk : RK w b v w' v') : ROut w b s v val res (.returned (val a)) w' := by
  subst hr; exact ⟨rfl, v', hx, hk⟩
theorem ROut.no {α : Type} {w w' : World} {b : Nat} {s : List UInt8} {v v' : Value} {val : α → Value} {res : Except Er (α × BRd)} {z : Int} {a : Nat} (hr : res = .error (z, a)) (hk : RK w b v w' v') : ROut w b s v val res (Pan z (a : Int)) w' := by
  subst hr; exact ⟨rfl, v', hk⟩
theorem ROut.trans {α : Type} {w w1 w' : World} {b : Nat} {s : List UInt8} {v v1 : Value} {val : α → Value} {res : Except Er (α × BRd)} {e : Ending} (hk : RK w b v w1 v1) (h : ROut w1 b s v1 val res e w') : ROut w b s v val res e w' := by
  unfold ROut at *
  cases res with
  | error q => obtain ⟨z, a⟩ := q; obtain ⟨he, v', h'⟩ := h; exact ⟨he, v', hk.trans h'⟩
  | ok q => obtain ⟨a, q⟩ := q; obtain ⟨he, v', hx, h'⟩ := h; exact ⟨he, v', hx, hk.trans h'⟩
theorem RX.row_but {w : World} {b : Nat} {s : List UInt8} {r : BRd} {v : Value} (h : RX w b s r v) {j : Nat} (u : Value) (r' : BRd) (hr : (rcells s r v).setIfInBounds j u = rcells s r' v) (hl : r'.l = r.l) (hp : r'.p ≤ s.length) : RX (w.setCell ⟨b, j, none⟩ u) b s r' v := by
  have gr0 : w.grownBy w (some b) := ⟨rfl, rfl, rfl, Nat.le_refl _, fun _ _ _ => rfl⟩
  refine ⟨?_, ?_, h.ob, hp, h.s, by rw [hl]; exact h.l⟩
  · rw [heap_setCell_same _ b j _ _ _ h.heap, hr]
  · rw [hl]; exact h.row.kept (grown_setc gr0 j u) (.inr h.ob)
theorem RK.set {w w1 : World} {b : Nat} {v v1 : Value} (h : RK w b v w1 v1) (j : Nat) (u : Value) : RK w b v (w1.setCell ⟨b, j, none⟩ u) v1 := ⟨h.k.setCell (p := ⟨b, j, none⟩) (.inl rfl) u, h.v⟩

section
variable {b : Nat} {s : List UInt8} {r : BRd} {v : Value}
set_option maxRecDepth 100000 in
set_option maxHeartbeats 8000000 in
theorem putbytes_c (G : Nat → Bool) (w : World) (h : RX w b s r v) :
    Calls Tryz.prog 88 #[.pointer (some ⟨b, 0, none⟩), sv G] w fun e w' => e = .returned (.int .i64 (((r.put (byNd G)).l.length : Int) - 1)) ∧ ∃ v', RX w' b s (r.put (byNd G)) v' ∧ RK w b v w' v' := by
  have hbx : Below w.heap.size w (w.alloc (.cells #[.int .u64 (wd G 0), .int .u64 (wd G 1), .int .u64 (wd G 2), .int .u64 (wd G 3)] 24)) := (Below.refl _ w).alloc (Nat.le_refl _) _
  have hp := rput_c (byNd G) _ (h.below hbx)
  have HK := Lib.hid (RK.below (b := b) (v := v) hbx)
  unfold byNd at hp ⊢
  simp only at hp
  have HP := Lib.hid hp
  clear hp h hbx
  unfold sv
  go_enter Tryz.func88, Tryz.ntmps88
  go_wp2_with fail
  refine HP.out.mono ?_
  rintro e w2 ⟨rfl, v', hx, hk⟩
  have HX := Lib.hid hx
  have HK2 := Lib.hid (HK.out.trans hk)
  clear hx hk HP HK
  go_wp2
  go_ret
  exact ⟨rfl, v', HX.out, HK2.out⟩

set_option maxRecDepth 100000 in
set_option maxHeartbeats 8000000 in
theorem ref_c (n a : Nat) (hn : n ≤ 9) (w : World) (h : RX w b s r v) :
    Calls Tryz.prog 102 #[.pointer (some ⟨b, 0, none⟩), .int .i64 (n : Int), .int .i64 (a : Int)] w (ROut w b s v (fun _ : Unit => .tuple #[]) (if !r.en n then .error (44, a) else .ok ((), r.put ⟨8, 0, 0, 0, 0, 0, 0, 0, 0, (n : Int)⟩))) := by
  have hc : w.cell? ⟨b, 4 + n, none⟩ = some (.bool (r.en n)) := by
    rw [h.cell]
    rcases (by omega : n = 0 ∨ n = 1 ∨ n = 2 ∨ n = 3 ∨ n = 4 ∨ n = 5 ∨ n = 6 ∨ n = 7 ∨ n = 8 ∨ n = 9) with rfl | rfl | rfl | rfl | rfl | rfl | rfl | rfl | rfl | rfl <;> rfl
  have hi : (0 : Int) ≤ (n : Int) ∧ (n : Int) < 10 := by omega
  have hp := rput_c ⟨8, 0, 0, 0, 0, 0, 0, 0, 0, (n : Int)⟩ w h
  simp only at hp
  have HP := Lib.hid hp
  have HW := Lib.hid (wrong_c 44 (a : Int) w)
  have HR0 := Lib.hid (RK.refl (w := w) (b := b) (v := v))
  cases he : r.en n with
  | false =>
    rw [he] at hc
    clear hp HP h he
    go_enter Tryz.func102, Tryz.ntmps102
    go_wp2_with fail
    refine HW.out.mono ?_
    rintro e w2 ⟨rfl, rfl⟩
    unfold Pan
    go_wp2
    exact ⟨rfl, ROut.no rfl HR0.out⟩
  | true =>
    rw [he] at hc
    clear hp h he HW
    go_enter Tryz.func102, Tryz.ntmps102
    go_wp2_with fail
    refine HP.out.mono ?_
    rintro e w2 ⟨rfl, v', hx, hk⟩
    have HX := Lib.hid hx
    have HK := Lib.hid hk
    clear hx hk HP
    go_wp2
    go_end0
    exact ROut.yes (α := Unit) (a := ()) rfl HX.out HK.out

end

end Go.Proofs.YthbldjiibgnfmaaGreatDoor

namespace Go.Proofs.YthbldjiibgnfmaaGreatDoor
open Go.RowKit
set_option linter.unusedVariables false
set_option linter.unusedSimpArgs false

theorem slice_at (s : List UInt8) (a : Nat) (ha : a ≤ s.length) (W : World) : (Instr.slice 9 (.string ⟨s.toArray⟩) (some (.int .i64 (a : Int))) none none).run Tryz.prog W = .ok (.string ⟨(s.drop a).toArray⟩) W := by
  have hsz : (⟨s.toArray⟩ : ByteArray).size = s.length := by simp [ByteArray.size]
  have e : (⟨s.toArray⟩ : ByteArray).extract a s.length = ⟨(s.drop a).toArray⟩ := by rw [← drop_arr, hsz]
  rw [run_slice_string_from_if (P := Tryz.prog) W 9 _ .i64 (a : Int) Tryz.underlying9, if_pos ⟨by omega, by rw [hsz]; omega⟩, hsz]
  rw [show ((a : Int)).toNat = a by omega, e]
section
variable {b : Nat} {s : List UInt8} {r : BRd} {v : Value}
set_option maxRecDepth 100000 in
set_option maxHeartbeats 8000000 in
theorem bracketr_c (a : Nat) (ha : a ≤ s.length) (w : World) (h : RX w b s r v) (hm : MaxL w) :
    Calls Tryz.prog 89 #[.pointer (some ⟨b, 0, none⟩), .int .i64 (a : Int)] w (ROut w b s v (fun _ : Unit => .tuple #[]) (match brkP (s.drop a) with
      | none => .error (42, a)
      | some (G, n) => .ok ((), (r.to (a + n)).put (byNd G)))) := by
  have hs := h.s
  have hlt := h.lt
  have d0 : w.cell? ⟨b, 0, none⟩ = some (.string ⟨s.toArray⟩) := (h.cell 0).trans rfl
  have hsl := fun W => slice_at s a ha W
  have hB := bracket_c (s.drop a) (by rw [List.length_drop]; omega) w hm
  cases hq : brkP (s.drop a) with
  | none =>
    rw [hq] at hB
    have HB := Lib.hid hB
    have HW := Lib.hid fun w => wrong_c 42 (a : Int) w
    clear hB hq h hm
    go_enter Tryz.func89, Tryz.ntmps89
    go_wp2_with fail
    refine HB.out.mono ?_
    rintro e w1 ⟨rfl, hB1⟩
    have HK := Lib.hid (RK.below (b := b) (v := v) (hB1.alloc hB1.size (.cells #[.int .u64 0, .int .u64 0, .int .u64 0, .int .u64 0] 24)))
    rw [sv_none]
    go_wp2_with fail
    refine (HW.out _).mono ?_
    rintro e w2 ⟨rfl, rfl⟩
    unfold Pan
    go_wp2
    exact ⟨rfl, ROut.no rfl HK.out⟩
  | some q =>
    obtain ⟨G, n⟩ := q
    rw [hq] at hB
    have hle := brkP_le hq
    simp only [List.length_drop] at hle
    have hn : a + n ≤ s.length := by omega
    have HB := Lib.hid hB
    have HPB := Lib.hid fun w1 h1 => putbytes_c (r := r.to (a + n)) (v := v) (b := b) (s := s) G w1 h1
    have ew : IntKind.i64.wrap ((a : Int) + (n : Int)) = (a : Int) + (n : Int) := by simp [IntKind.wrap, IntKind.signed, IntKind.bits]; omega
    have H := Lib.hid h
    clear hB hq h hm
    go_enter Tryz.func89, Tryz.ntmps89
    go_wp2_with fail
    refine HB.out.mono ?_
    rintro e w1 ⟨rfl, hB1⟩
    have h1 := H.out.below hB1
    have h1l := h1.lt
    have f1 := h1.fz 1
    have c1 : w1.cell? ⟨b, 1, none⟩ = some (.int .i64 (r.p : Int)) := (h1.cell 1).trans rfl
    have v1 := Four.new w1 24 (.int .u64 (wd G 0)) (.int .u64 (wd G 1)) (.int .u64 (wd G 2)) (.int .u64 (wd G 3))
    have h2 := h1.row_but (j := 1) (.int .i64 ((a : Int) + (n : Int))) (r.to (a + n)) (by rw [← Int.natCast_add]; rfl) rfl hn
    have h3 := h2.below ((Below.refl _ _).alloc (Nat.le_refl _) (.cells #[.int .u64 (wd G 0), .int .u64 (wd G 1), .int .u64 (wd G 2), .int .u64 (wd G 3)] 24))
    have k2 := (RK.below (b := b) (v := v) hB1).set 1 (.int .i64 ((a : Int) + (n : Int)))
    have k3 := k2.trans (RK.below (b := b) (v := v) ((Below.refl _ _).alloc (Nat.le_refl _) (.cells #[.int .u64 (wd G 0), .int .u64 (wd G 1), .int .u64 (wd G 2), .int .u64 (wd G 3)] 24)))
    have H3 := Lib.hid h3
    have K3 := Lib.hid k3
    clear h1 v1 h2 h3 k2 k3 HB H hB1
    simp only [sv] at HPB ⊢
    go_wp2_with fail
    refine (HPB.out _ H3.out).mono ?_
    rintro e w4 ⟨rfl, v', hx, hk⟩
    have HX := Lib.hid hx
    have HK := Lib.hid (K3.out.trans hk)
    clear hx hk HPB H3 K3
    go_wp2
    go_end0
    exact ROut.yes (α := Unit) (a := ()) rfl HX.out HK.out
end

end Go.Proofs.YthbldjiibgnfmaaGreatDoor
