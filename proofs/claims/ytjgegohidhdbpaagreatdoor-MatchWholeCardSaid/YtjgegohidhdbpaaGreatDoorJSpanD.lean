/- What groups have, as a value: only. -/
import Derived.Test.YtjgegohidhdbpaaGreatDoorJMbJ
import Derived.WideKeyPair
import Derived.Maps.Own
import Derived.DeepKeys4
import Derived.Maps.OwnSet
import Derived.Maps.Range
open Go.Proofs.Tryz
set_option linter.unusedVariables false
set_option linter.unusedSimpArgs false
set_option maxRecDepth 100000
set_option maxHeartbeats 40000000
namespace Go.Proofs.YtjgegohidhdbpaaGreatDoor
open Go.RowKit
theorem qi8 (c : Cp) (G : Gs) (w : World) : Calls prog 102 #[qk c, .int .u16 (gw G)] w fun e w' => e = .returned (qk (qP c G)) ∧ Below w.heap.size w w' := by
 have HN := ξ (fun w => Ym w)
 have HH := ξ (fun n hn w => qdW G n hn w)
 obtain ⟨E, hE⟩ : ∃ E, E = qP c G := ⟨_, rfl⟩
 have VI : ∀ k, G k = true → E k = c k := fun k h => by rw [hE]; unfold qP; rw [if_pos h]
 have Qq : ∀ k, G k = false → E k = none := fun k h => by rw [hE]; unfold qP; rw [h]; rfl
 rw [← hE]
 have HE1 := ξ VI; have HE2 := ξ Qq
 clear hE VI Qq
 unfold qk
 generalize gw G = gG at *
 go_enter func102, ntmps102
 go_wp2
 go_loopw [6] (fun i wr => ∃ k : Nat, k ≤ 10 ∧ i = .int .i64 k ∧ qm wr w.heap.size 10 27 (fun i => qj (if i < k then E i else c i)) ∧ qm wr (w.heap.size + 1) 10 27 (fun _ => .complex .f64 0 0) ∧ Below w.heap.size w wr) (fun i _ => 10 - (RowKit.intOf i).toNat)
 case atStart =>
  refine ⟨0, by omega, rfl, ?_, ?_, ((Below.refl _ w).alloc (Nat.le_refl _) _).alloc (by simp) _⟩
  ·exact (qm.new w 10 27 (fun i => qj (if i < 0 then E i else c i))).below (B := w.heap.size + 1) (by
    have := (Below.refl (w.heap.size + 1) (w.alloc (.cells ((List.range 10).map fun i => qj (if i < 0 then E i else c i)).toArray 27))).alloc (by simp) (.cells ((List.range 10).map fun _ => Value.complex .f64 0 0).toArray 27)
    exact this) (by omega)
  ·have := qm.new (w.alloc (.cells ((List.range 10).map fun i => qj (if i < 0 then E i else c i)).toArray 27)) 10 27 (fun _ => .complex .f64 0 0)
   rw [World.size_alloc] at this
   exact this
 case round =>
  obtain ⟨k, hk, rfl, hc, hr, hB⟩ := hrel
  have lB := hB.size
  by_cases zb : k < 10
  ·have c0 : wr.cell? ⟨w.heap.size, k, none⟩ = some (qj (c k)) := by rw [hc.cell k zb]; simp
   have z0 := hc.fz k
   have vb : E k = c k → qm wr w.heap.size 10 27 (fun i => qj (if i < k + 1 then E i else c i)) := fun h => by
    have e : (fun i => qj (if i < k then E i else c i)) = (fun i => qj (if i < k + 1 then E i else c i)) := by
     funext i
     by_cases e1 : i = k
     ·subst e1; simp [h]
     ·have : (i < k + 1) ↔ (i < k) := by omega
      simp [this]
    rw [← e]; exact hc
   have Xn : qm (wr.setCell ⟨w.heap.size, k, none⟩ (qj (E k))) w.heap.size 10 27 (fun i => qj (if i < k + 1 then E i else c i)) := by
    have h := hc.set k (qj (E k))
    have e : (fun i => if i = k then qj (E k) else qj (if i < k then E i else c i)) = (fun i => qj (if i < k + 1 then E i else c i)) := by
     funext i
     by_cases e1 : i = k
     ·subst e1; simp
     ·have : (i < k + 1) ↔ (i < k) := by omega
      simp [e1, this]
    rw [e] at h; exact h
   have HR := ξ (qm.mk ((Below.heap_setCell wr ⟨w.heap.size, k, none⟩ (qj (E k)) (w.heap.size + 1) (by simp)).trans hr.heap) : qm (wr.setCell ⟨w.heap.size, k, none⟩ (qj (E k))) (w.heap.size + 1) 10 27 (fun _ => .complex .f64 0 0))
   have HB := ξ (hB.setCell (p := ⟨w.heap.size, k, none⟩) (Nat.le_refl _) (qj (E k)))
   have J6 := ξ vb
   have WR := ξ Xn
   clear vb Xn
   cases hG : G k with
   | true =>
    have hq := J6.out (HE1.out k hG)
    clear HR HB WR J6
    have HQ := ξ hq
    clear hq hc
    go_wp2_with fail
    refine (HH.out k zb _).mono ?_
    rintro e v2 ⟨rfl, rfl⟩
    rw [hG]
    go_wp2
    go_roundw
    case rel => exact ⟨k + 1, by omega, by simp, HQ.out, hr, hB⟩
    case measure => (simp [RowKit.intOf]) <;> omega
   | false =>
    have hn : qj (E k) = .complex .f64 qf qf := by rw [HE2.out k hG]; rfl
    rw [hn] at HR HB WR
    clear J6 hn
    go_wp2_with fail
    refine (HH.out k zb _).mono ?_
    rintro e v2 ⟨rfl, rfl⟩
    rw [hG]
    go_wp2_with fail
    refine (HN.out _).mono ?_
    rintro e v3 ⟨rfl, rfl⟩
    go_wp2
    go_roundw
    case rel => exact ⟨k + 1, by omega, by simp, WR.out, HR.out, HB.out⟩
    case measure => (simp [RowKit.intOf]) <;> omega
  ·obtain rfl : k = 10 := by omega
   have c0 : wr.cell? ⟨w.heap.size, 0, none⟩ = some (qj (E 0)) := by rw [hc.cell 0 (by decide)]; rfl
   have c1 : wr.cell? ⟨w.heap.size, 1, none⟩ = some (qj (E 1)) := by rw [hc.cell 1 (by decide)]; rfl
   have c2 : wr.cell? ⟨w.heap.size, 2, none⟩ = some (qj (E 2)) := by rw [hc.cell 2 (by decide)]; rfl
   have c3 : wr.cell? ⟨w.heap.size, 3, none⟩ = some (qj (E 3)) := by rw [hc.cell 3 (by decide)]; rfl
   have c4 : wr.cell? ⟨w.heap.size, 4, none⟩ = some (qj (E 4)) := by rw [hc.cell 4 (by decide)]; rfl
   have c5 : wr.cell? ⟨w.heap.size, 5, none⟩ = some (qj (E 5)) := by rw [hc.cell 5 (by decide)]; rfl
   have c6 : wr.cell? ⟨w.heap.size, 6, none⟩ = some (qj (E 6)) := by rw [hc.cell 6 (by decide)]; rfl
   have c7 : wr.cell? ⟨w.heap.size, 7, none⟩ = some (qj (E 7)) := by rw [hc.cell 7 (by decide)]; rfl
   have c8 : wr.cell? ⟨w.heap.size, 8, none⟩ = some (qj (E 8)) := by rw [hc.cell 8 (by decide)]; rfl
   have c9 : wr.cell? ⟨w.heap.size, 9, none⟩ = some (qj (E 9)) := by rw [hc.cell 9 (by decide)]; rfl
   have r_ := hr.rf10
   have HB := ξ ((((((((((hB.setCell (p := ⟨w.heap.size + 1, 0, none⟩) (by simp) (qj (E 0))).setCell (p := ⟨w.heap.size + 1, 1, none⟩) (by simp) (qj (E 1))).setCell (p := ⟨w.heap.size + 1, 2, none⟩) (by simp) (qj (E 2))).setCell (p := ⟨w.heap.size + 1, 3, none⟩) (by simp) (qj (E 3))).setCell (p := ⟨w.heap.size + 1, 4, none⟩) (by simp) (qj (E 4))).setCell (p := ⟨w.heap.size + 1, 5, none⟩) (by simp) (qj (E 5))).setCell (p := ⟨w.heap.size + 1, 6, none⟩) (by simp) (qj (E 6))).setCell (p := ⟨w.heap.size + 1, 7, none⟩) (by simp) (qj (E 7))).setCell (p := ⟨w.heap.size + 1, 8, none⟩) (by simp) (qj (E 8))).setCell (p := ⟨w.heap.size + 1, 9, none⟩) (by simp) (qj (E 9)))
   have za := ξ (qV (w := wr) (b := w.heap.size + 1) hr E)
   clear hr hc
   go_wp2
   refine bodyPost_ret (v := .agg (cH E)) (by simp [results, results102, go_sem, za.out]) rfl ⟨rfl, HB.out⟩
open Go.Proofs.YtjgegohidhdbpaaGreatDoor.Fl
theorem U8 (o : Option (Nat × Nat)) (Qt : ∀ a b, o = some (a, b) → a ≤ b ∧ b ≤ 999999999) (w : World) : Calls prog 68 #[qj o] w fun e w' => e = .returned (.bool o.isSome) ∧ w' = w := by
 cases o with
 | none =>
  refine (Xl qf qf w ?_).mono ?_
  ·unfold sp; rw [yR]; rfl
  ·rintro e w' ⟨h1, h2⟩; exact ⟨h1, h2.symm⟩
 | some p =>
  obtain ⟨a, b⟩ := p
  obtain ⟨h1, h2⟩ := Qt a b rfl
  have hv : ∀ a : Nat, a ≤ 999999999 → val (floatOfInt .f64 (a : Int)) = some (a : Int) := fun a h => zX (by have : (2 : Nat) ^ 53 = 9007199254740992 := rfl; omega)
  refine (Jq (floatOfInt .f64 (a : Int)) (floatOfInt .f64 (b : Int)) a b w (JM (hv a (by omega)) (hv b h2) (by omega) (by omega) (by omega))).mono ?_
  rintro e w' ⟨h1, h2⟩; exact ⟨h1, h2.symm⟩
theorem qgr (d : Cp) (k : Nat) (hk : k < 10) (w : World) : (Instr.index 27 (.agg (cH d)) (.int .i64 k)).run prog w = .ok (qj (d k)) w := by
 rcases (by omega : k = 0 ∨ k = 1 ∨ k = 2 ∨ k = 3 ∨ k = 4 ∨ k = 5 ∨ k = 6 ∨ k = 7 ∨ k = 8 ∨ k = 9) with rfl | rfl | rfl | rfl | rfl | rfl | rfl | rfl | rfl | rfl <;> kernel_rfl
theorem qd0 (c d : Cp) (hd : ∀ g a b, d g = some (a, b) → a ≤ b ∧ b ≤ 999999999) (w : World) : Calls prog 103 #[qk c, qk d] w fun e w' => e = .returned (qk (zx c d)) ∧ Below w.heap.size w w' := by
 have HM := ξ (fun k w => U8 (d k) (hd k) w)
 have HI := ξ (fun k hk w => qgr d k hk w)
 obtain ⟨E, hE⟩ : ∃ E, E = zx c d := ⟨_, rfl⟩
 have VI : ∀ k, (d k).isSome = false → E k = c k := fun k h => by rw [hE]; unfold zx; rw [h]; rfl
 have Qq : ∀ k, (d k).isSome = true → E k = d k := fun k h => by rw [hE]; unfold zx; rw [h]; rfl
 rw [← hE]
 have HE1 := ξ VI; have HE2 := ξ Qq
 clear hE VI Qq hd
 unfold qk
 go_enter func103, ntmps103
 go_wp2
 go_loopw [8] (fun i wr => ∃ k : Nat, k ≤ 10 ∧ i = .int .i64 k ∧ qm wr w.heap.size 10 27 (fun i => qj (if i < k then E i else c i)) ∧ qm wr (w.heap.size + 2) 10 27 (fun _ => .complex .f64 0 0) ∧ Below w.heap.size w wr) (fun i _ => 10 - (RowKit.intOf i).toNat)
 case atStart =>
  refine ⟨0, by omega, rfl, ?_, ?_, (((Below.refl _ w).alloc (Nat.le_refl _) _).alloc (by simp) _).alloc (by simp only [World.size_alloc]; omega) _⟩
  ·have h0 := qm.new w 10 27 (fun i => qj (if i < 0 then E i else c i))
   exact ⟨(heap_alloc _ (heap_alloc _ h0.heap))⟩
  ·have := qm.new ((w.alloc (.cells ((List.range 10).map fun i => qj (if i < 0 then E i else c i)).toArray 27)).alloc (.cells ((List.range 10).map fun i => qj (d i)).toArray 27)) 10 27 (fun _ => .complex .f64 0 0)
   rw [World.size_alloc, World.size_alloc] at this
   exact this
 case round =>
  obtain ⟨k, hk, rfl, hc, hr, hB⟩ := hrel
  have lB := hB.size
  by_cases zb : k < 10
  ·have c0 : wr.cell? ⟨w.heap.size, k, none⟩ = some (qj (c k)) := by rw [hc.cell k zb]; simp
   have z0 := hc.fz k
   have qi9 := HI.out k zb wr
   have vb : E k = c k → qm wr w.heap.size 10 27 (fun i => qj (if i < k + 1 then E i else c i)) := fun h => by
    have e : (fun i => qj (if i < k then E i else c i)) = (fun i => qj (if i < k + 1 then E i else c i)) := by
     funext i
     by_cases e1 : i = k
     ·subst e1; simp [h]
     ·have : (i < k + 1) ↔ (i < k) := by omega
      simp [this]
    rw [← e]; exact hc
   have Xn : qm (wr.setCell ⟨w.heap.size, k, none⟩ (qj (E k))) w.heap.size 10 27 (fun i => qj (if i < k + 1 then E i else c i)) := by
    have h := hc.set k (qj (E k))
    have e : (fun i => if i = k then qj (E k) else qj (if i < k then E i else c i)) = (fun i => qj (if i < k + 1 then E i else c i)) := by
     funext i
     by_cases e1 : i = k
     ·subst e1; simp
     ·have : (i < k + 1) ↔ (i < k) := by omega
      simp [e1, this]
    rw [e] at h; exact h
   have HR := ξ (qm.mk ((Below.heap_setCell wr ⟨w.heap.size, k, none⟩ (qj (E k)) (w.heap.size + 2) (by simp)).trans hr.heap) : qm (wr.setCell ⟨w.heap.size, k, none⟩ (qj (E k))) (w.heap.size + 2) 10 27 (fun _ => .complex .f64 0 0))
   have HB := ξ (hB.setCell (p := ⟨w.heap.size, k, none⟩) (Nat.le_refl _) (qj (E k)))
   have J6 := ξ vb
   have WR := ξ Xn
   clear vb Xn
   cases hG : (d k).isSome with
   | false =>
    have hq := J6.out (HE1.out k hG)
    clear HR HB WR J6
    have HQ := ξ hq
    clear hq hc
    go_wp2_with fail
    refine (HM.out k _).mono ?_
    rintro e v2 ⟨rfl, rfl⟩
    rw [hG]
    clear qi9
    go_wp2
    go_roundw
    case rel => exact ⟨k + 1, by omega, by simp, HQ.out, hr, hB⟩
    case measure => (simp [RowKit.intOf]) <;> omega
   | true =>
    rw [HE2.out k hG] at HR HB WR
    clear J6
    have hm := HM.out k wr
    obtain ⟨x, y, hxy⟩ : ∃ x y, qj (d k) = .complex .f64 x y := by
     cases d k with
     | none => exact ⟨_, _, rfl⟩
     | some p => obtain ⟨a, b⟩ := p; exact ⟨_, _, rfl⟩
    rw [hxy] at hm qi9 HR HB WR
    have HMk := ξ hm
    clear hm hxy
    go_wp2_with fail
    refine HMk.out.mono ?_
    rintro e v2 ⟨rfl, rfl⟩
    rw [hG]
    clear qi9
    go_wp2
    go_roundw
    case rel => exact ⟨k + 1, by omega, by simp, WR.out, HR.out, HB.out⟩
    case measure => (simp [RowKit.intOf]) <;> omega
  ·obtain rfl : k = 10 := by omega
   have c0 : wr.cell? ⟨w.heap.size, 0, none⟩ = some (qj (E 0)) := by rw [hc.cell 0 (by decide)]; rfl
   have c1 : wr.cell? ⟨w.heap.size, 1, none⟩ = some (qj (E 1)) := by rw [hc.cell 1 (by decide)]; rfl
   have c2 : wr.cell? ⟨w.heap.size, 2, none⟩ = some (qj (E 2)) := by rw [hc.cell 2 (by decide)]; rfl
   have c3 : wr.cell? ⟨w.heap.size, 3, none⟩ = some (qj (E 3)) := by rw [hc.cell 3 (by decide)]; rfl
   have c4 : wr.cell? ⟨w.heap.size, 4, none⟩ = some (qj (E 4)) := by rw [hc.cell 4 (by decide)]; rfl
   have c5 : wr.cell? ⟨w.heap.size, 5, none⟩ = some (qj (E 5)) := by rw [hc.cell 5 (by decide)]; rfl
   have c6 : wr.cell? ⟨w.heap.size, 6, none⟩ = some (qj (E 6)) := by rw [hc.cell 6 (by decide)]; rfl
   have c7 : wr.cell? ⟨w.heap.size, 7, none⟩ = some (qj (E 7)) := by rw [hc.cell 7 (by decide)]; rfl
   have c8 : wr.cell? ⟨w.heap.size, 8, none⟩ = some (qj (E 8)) := by rw [hc.cell 8 (by decide)]; rfl
   have c9 : wr.cell? ⟨w.heap.size, 9, none⟩ = some (qj (E 9)) := by rw [hc.cell 9 (by decide)]; rfl
   have r_ := hr.rf10
   have HB := ξ ((((((((((hB.setCell (p := ⟨w.heap.size + 2, 0, none⟩) (by simp) (qj (E 0))).setCell (p := ⟨w.heap.size + 2, 1, none⟩) (by simp) (qj (E 1))).setCell (p := ⟨w.heap.size + 2, 2, none⟩) (by simp) (qj (E 2))).setCell (p := ⟨w.heap.size + 2, 3, none⟩) (by simp) (qj (E 3))).setCell (p := ⟨w.heap.size + 2, 4, none⟩) (by simp) (qj (E 4))).setCell (p := ⟨w.heap.size + 2, 5, none⟩) (by simp) (qj (E 5))).setCell (p := ⟨w.heap.size + 2, 6, none⟩) (by simp) (qj (E 6))).setCell (p := ⟨w.heap.size + 2, 7, none⟩) (by simp) (qj (E 7))).setCell (p := ⟨w.heap.size + 2, 8, none⟩) (by simp) (qj (E 8))).setCell (p := ⟨w.heap.size + 2, 9, none⟩) (by simp) (qj (E 9)))
   have za := ξ (qV (w := wr) (b := w.heap.size + 2) hr E)
   clear hr hc
   go_wp2
   refine bodyPost_ret (v := .agg (cH E)) (by simp [results, results103, go_sem, za.out]) rfl ⟨rfl, HB.out⟩
end Go.Proofs.YtjgegohidhdbpaaGreatDoor
namespace Go.Proofs.YtjgegohidhdbpaaGreatDoor
open Go.RowKit
structure kU where
 lb : Nat
 lo : Nat
 n : Nat
 lc : Nat
 rb : Nat
 bn : Nat
 br : Nat
 bl : Nat
 lp : Option Addr
def kU.cells (v : kU) (s : List UInt8) : Array Value := #[.slice (some ⟨v.lb, v.lo, none⟩) v.n v.lc, .string ⟨s.toArray⟩, .slice (some ⟨v.rb, 0, none⟩) v.n v.n, .map (some v.bn), .map (some v.br), .map (some v.bl), .pointer v.lp]
structure km (w : World) (X : Nat) (v : kU) (s : List UInt8) : Prop where
 heap : w.heap[X]? = some (.cells (v.cells s) 95 (0, 0))
section
variable {w : World} {X : Nat} {v : kU} {s : List UInt8}
theorem km.lt (h : km w X v s) : X < w.heap.size := (Array.getElem?_eq_some_iff.1 h.heap).1
theorem km.c0 (h : km w X v s) : w.cell? ⟨X, 0, none⟩ = some (.slice (some ⟨v.lb, v.lo, none⟩) v.n v.lc) := by simp [World.cell?, h.heap, kU.cells]
theorem km.c1 (h : km w X v s) : w.cell? ⟨X, 1, none⟩ = some (.string ⟨s.toArray⟩) := by simp [World.cell?, h.heap, kU.cells]
theorem km.c2 (h : km w X v s) : w.cell? ⟨X, 2, none⟩ = some (.slice (some ⟨v.rb, 0, none⟩) v.n v.n) := by simp [World.cell?, h.heap, kU.cells]
theorem km.c3 (h : km w X v s) : w.cell? ⟨X, 3, none⟩ = some (.map (some v.bn)) := by simp [World.cell?, h.heap, kU.cells]
theorem km.c4 (h : km w X v s) : w.cell? ⟨X, 4, none⟩ = some (.map (some v.br)) := by simp [World.cell?, h.heap, kU.cells]
theorem km.c5 (h : km w X v s) : w.cell? ⟨X, 5, none⟩ = some (.map (some v.bl)) := by simp [World.cell?, h.heap, kU.cells]
theorem km.c6 (h : km w X v s) : w.cell? ⟨X, 6, none⟩ = some (.pointer v.lp) := by simp [World.cell?, h.heap, kU.cells]
theorem km.keeps {S : Nat → Prop} {w' : World} (h : km w X v s) (k : qb S w w') (hs : ¬ S X) : km w' X v s := ⟨(k.block X h.lt hs).trans h.heap⟩
end
theorem qn.keeps {S : Nat → Prop} {w w' : World} {b o : Nat} {xs : List Nd} (h : qn w b o xs) (k : qb S w w') (hs : ¬ S b) : qn w' b o xs :=
 ⟨Nat.lt_of_lt_of_le h.lt k.size, fun i x hx j v hv => by
  have e := k.block b h.lt hs
  rw [show w'.cell? ⟨b, o + i * 10 + j, none⟩ = w.cell? ⟨b, o + i * 10 + j, none⟩ by simp only [World.cell?, e]]
  exact h.cell i x hx j v hv⟩
def vN : T → Bool
 | .leaf _ => true
 | .two _ _ _ => false
 | .times _ _ t => t.isBytes.isSome
 | .group _ _ => false
theorem yZ (X i : Nat) (v : kU) (s : List UInt8) (xs : List Nd) (hi : i < v.n) (hn : v.n ≤ 120) (x : Nd) (hx : xs[i]? = some x) (r : Bool)
  (hr : (x.kind = 4 ∨ x.kind = 5 ∨ x.kind = 7) ∧ r = false ∨ (x.kind = 6 ∧ ∃ (p : Nat) (y : Nd), x.a = p ∧ p < v.n ∧ xs[p]? = some y ∧ r = decide (y.kind = 1)) ∨ (x.kind ≠ 4 ∧ x.kind ≠ 5 ∧ x.kind ≠ 7 ∧ x.kind ≠ 6) ∧ r = true)
  (w : World) (h : km w X v s) (hl : qn w v.lb v.lo xs) :
  Calls prog 131 #[.pointer (some ⟨X, 0, none⟩), .int .i64 i] w fun e w' => e = .returned (.bool r) ∧ Below w.heap.size w w' := by
 have q0 := h.c0
 have d := hl.cell i x hx
 have HL := ξ hl.cell
 have lb := hl.lt
 clear h hl
 obtain ⟨lb', lo, n, lc, rb, bn, br, bl, lp⟩ := v
 simp only at *
 obtain ⟨kd, w0, w1, w2, w3, xa, xb, m, M, xn⟩ := x
 have d_ := zB d
 clear d
 have lX := yc q0
 simp only at hr
 rcases hr with ⟨hk, rfl⟩ | ⟨rfl, p, y, rfl, hp, hy, rfl⟩ | ⟨hk, rfl⟩
 ·rcases hk with rfl | rfl | rfl
  ·go_enter func131, ntmps131
   go_wp2
   go_ret
   exact ⟨rfl, (Below.refl _ w).alloc (Nat.le_refl _) _⟩
  ·go_enter func131, ntmps131
   go_wp2
   go_ret
   exact ⟨rfl, (Below.refl _ w).alloc (Nat.le_refl _) _⟩
  ·go_enter func131, ntmps131
   go_wp2
   go_ret
   exact ⟨rfl, (Below.refl _ w).alloc (Nat.le_refl _) _⟩
 ·obtain ⟨ky, u0, u1, u2, u3, ya, yb, ym, yM, yn⟩ := y
  have g0 : w.cell? ⟨lb', lo + p * 10, none⟩ = some (.int .i64 ky) := HL.out p _ hy 0 _ rfl
  have g0' := qa (.cells (nA 6 w0 w1 w2 w3 p xb m M xn) 57) g0
  have q0' := qa (.cells (nA 6 w0 w1 w2 w3 p xb m M xn) 57) q0
  simp only
  by_cases hk : ky = 1
  ·subst hk
   go_enter func131, ntmps131
   go_wp2_with fail
   go_region
   all_goals
    go_wp2
    go_ret
    exact ⟨rfl, ((Below.refl _ w).alloc (Nat.le_refl _) _).drew⟩
  ·have z : (ky == 1) = false := by rw [beq_eq_false_iff_ne]; exact hk
   rw [decide_eq_false hk]
   go_enter func131, ntmps131
   go_wp2_with fail
   go_region
   all_goals
    go_wp2
    go_ret
    exact ⟨rfl, ((Below.refl _ w).alloc (Nat.le_refl _) _).drew⟩
 ·obtain ⟨k4, k5, k7, k6⟩ := hk
  have z4 : (kd == 4) = false := by rw [beq_eq_false_iff_ne]; exact k4
  have z5 : (kd == 5) = false := by rw [beq_eq_false_iff_ne]; exact k5
  have z7 : (kd == 7) = false := by rw [beq_eq_false_iff_ne]; exact k7
  have z6 : (kd == 6) = false := by rw [beq_eq_false_iff_ne]; exact k6
  go_enter func131, ntmps131
  go_wp2
  go_ret
  exact ⟨rfl, (Below.refl _ w).alloc (Nat.le_refl _) _⟩
theorem Q8 (X i : Nat) (v : kU) (s : List UInt8) (xs : List Nd) (t : T) (ht : zT (fun i => xs[i]?) t i) (hxs : xs.length = v.n) (hn : v.n ≤ 120) (w : World) (h : km w X v s) (hl : qn w v.lb v.lo xs) :
  Calls prog 131 #[.pointer (some ⟨X, 0, none⟩), .int .i64 i] w fun e w' => e = .returned (.bool (vN t)) ∧ Below w.heap.size w w' := by
 have qq : ∀ (j : Nat) (y : Nd), xs[j]? = some y → j < v.n := fun j y hj => by
  have := (List.getElem?_eq_some_iff.1 hj).1
  omega
 cases t with
 | leaf x =>
  have hx := ht.leaf
  have hk := ht.1
  simp only [T.Lok] at hk
  exact yZ X i v s xs (qq i x hx) hn x hx true (.inr (.inr ⟨by omega, rfl⟩)) w h hl
 | two k a b =>
  obtain ⟨p, q, hx, _, _, _, _, hk⟩ := ht.two
  exact yZ X i v s xs (qq i _ hx) hn _ hx false (.inl ⟨by simp only; omega, rfl⟩) w h hl
 | group N a =>
  obtain ⟨p, hx, _, _, hk⟩ := ht.group
  exact yZ X i v s xs (qq i _ hx) hn _ hx false (.inl ⟨.inr (.inr rfl), rfl⟩) w h hl
 | times m M a =>
  obtain ⟨p, hx, sa, hp, _⟩ := ht.times
  obtain ⟨o, hy, _⟩ := sa.node
  refine yZ X i v s xs (qq i _ hx) hn _ hx _ (.inr (.inl ⟨rfl, p, _, rfl, qq p _ hy, hy, ?_⟩)) w h hl
  have hk := sa.1
  cases a with
  | leaf y =>
   show (if y.kind = 1 then some y.set else none).isSome = decide (y.kind = 1)
   by_cases q : y.kind = 1
   ·rw [if_pos q, decide_eq_true q]; rfl
   ·rw [if_neg q, decide_eq_false q]; rfl
  | two k _ _ =>
   have : ¬ k = 1 := by have := hk.1; omega
   show false = decide (k = 1)
   rw [decide_eq_false this]
  | times _ _ _ => rfl
  | group _ _ => rfl
open Go.Maps Go.WideMaps
theorem WS : ArrKey prog 137 3 4 := ⟨underlying137, by kernel_rfl, by kernel_rfl, by kernel_rfl⟩
theorem jQ : Keyed prog 137 := Keyed.of_law WS.law
theorem Yn : ∃ m, Tryz.prog.types.size = m + 1 := ⟨Tryz.prog.types.size - 1, by have : 0 < Tryz.prog.types.size := of_decide_eq_true (by kernel_rfl); omega⟩
theorem ZG {a : Int} (h : -9223372036854775808 ≤ a ∧ a ≤ 9223372036854775807) : (Lit.int .i64 a).wf = true := by
 have e1 : IntKind.i64.min = -9223372036854775808 := by decide
 have e2 : IntKind.i64.max = 9223372036854775807 := by decide
 simp only [Lit.wf, e1, e2, Bool.and_eq_true, decide_eq_true_eq]
 exact h
def Jm (a b c d : Int) : Lit := .string (keyBytes [.int .i64 a, .int .i64 b, .int .i64 c, .int .i64 d])
theorem yh {a b c d : Int} (wa : (Lit.int .i64 a).wf = true) (wb : (Lit.int .i64 b).wf = true) (wc : (Lit.int .i64 c).wf = true) (wd : (Lit.int .i64 d).wf = true) :
  keyOf prog 137 (.agg #[.int .i64 a, .int .i64 b, .int .i64 c, .int .i64 d]) = some (Jm a b c d) := by
 have A := WS
 have he : Tryz.prog.underlying 3 = some (.int .i64) := underlying3
 have hkt := A.keyType Yn
 obtain ⟨m, hm⟩ := Yn
 unfold keyOf Jm
 simp only [A.hu]
 rw [if_pos (by simp [hkt, Value.formed, A.hu, A.size]), hm]
 unfold Program.keyLits
 simp only [A.hu, Value.cells]
 rw [if_pos (by rw [A.size]; rfl), show List.range 4 = [0, 1, 2, 3] from rfl, List.mapM_cons, List.mapM_cons, List.mapM_cons, List.mapM_cons, List.mapM_nil]
 simp [A.one, Program.keyLits, he, wa, wb, wc, wd]
theorem Yl {a b c d a' b' c' d' : Int} (wa : (Lit.int .i64 a).wf = true) (wb : (Lit.int .i64 b).wf = true) (wc : (Lit.int .i64 c).wf = true) (wd : (Lit.int .i64 d).wf = true) (wa' : (Lit.int .i64 a').wf = true) (wb' : (Lit.int .i64 b').wf = true) (wc' : (Lit.int .i64 c').wf = true) (wd' : (Lit.int .i64 d').wf = true)
  (h : Jm a b c d = Jm a' b' c' d') : a = a' ∧ b = b' ∧ c = c' ∧ d = d' := by
 have := jQ.inj (yh wa wb wc wd) (by rw [h]; exact yh wa' wb' wc' wd')
 simpa using this
theorem Z8 : Tryz.prog.underlying 168 = some (.array 10 167) := underlying168
theorem qja : Tryz.prog.underlying 167 = some (.array 2 3) := underlying167
theorem qd1 : KeyLaw prog 168 := deep_law_laid (by kernel_rfl) (m := 3) (by omega) (of_decide_eq_true (by kernel_rfl)) (by kernel_rfl) (by rw [Z8])
theorem kJ : Keyed prog 168 := Keyed.of_law qd1
theorem Xo (m : Nat) {a b : Int} (wa : (Lit.int .i64 a).wf = true) (wb : (Lit.int .i64 b).wf = true) : Tryz.prog.keyLits (m + 2) 167 [.int .i64 a, .int .i64 b] = some [.int .i64 a, .int .i64 b] := by
 have he : Tryz.prog.underlying 3 = some (.int .i64) := underlying3
 have c1 : Tryz.prog.cellsOf 167 = 2 := by kernel_rfl
 have c2 : Tryz.prog.cellsOf 3 = 1 := by kernel_rfl
 unfold Program.keyLits
 simp only [qja]
 rw [if_pos (by rw [c1]; rfl), show List.range 2 = [0, 1] from rfl, List.mapM_cons, List.mapM_cons, List.mapM_nil]
 simp [c2, Program.keyLits, he, wa, wb]
theorem U9 : ∃ m, Tryz.prog.types.size = m + 2 := ⟨Tryz.prog.types.size - 2, by have : 1 < Tryz.prog.types.size := of_decide_eq_true (by kernel_rfl); omega⟩
def WN (P : Nat → Int × Int) : Value := .agg #[.int .i64 (P 0).1, .int .i64 (P 0).2, .int .i64 (P 1).1, .int .i64 (P 1).2, .int .i64 (P 2).1, .int .i64 (P 2).2, .int .i64 (P 3).1, .int .i64 (P 3).2, .int .i64 (P 4).1, .int .i64 (P 4).2, .int .i64 (P 5).1, .int .i64 (P 5).2, .int .i64 (P 6).1, .int .i64 (P 6).2, .int .i64 (P 7).1, .int .i64 (P 7).2, .int .i64 (P 8).1, .int .i64 (P 8).2, .int .i64 (P 9).1, .int .i64 (P 9).2] 
theorem WQ (P : Nat → Int × Int) (hw : ∀ k, k < 10 → (Lit.int .i64 (P k).1).wf = true ∧ (Lit.int .i64 (P k).2).wf = true) :
  ∃ l, keyOf prog 168 (WN P) = some l := by
 have c1 : Tryz.prog.cellsOf 167 = 2 := by kernel_rfl
 have c0 : Tryz.prog.cellsOf 168 = 20 := by kernel_rfl
 have hkt : Tryz.prog.keyType 168 = true := by kernel_rfl
 obtain ⟨m, hm⟩ := U9
 have hp : ∀ k, k < 10 → Tryz.prog.keyLits (m + 2) 167 [.int .i64 (P k).1, .int .i64 (P k).2] = some [.int .i64 (P k).1, .int .i64 (P k).2] := fun k hk => Xo m (hw k hk).1 (hw k hk).2
 have h0 := hp 0 (by decide)
 have h1 := hp 1 (by decide)
 have h2 := hp 2 (by decide)
 have h3 := hp 3 (by decide)
 have h4 := hp 4 (by decide)
 have h5 := hp 5 (by decide)
 have h6 := hp 6 (by decide)
 have h7 := hp 7 (by decide)
 have h8 := hp 8 (by decide)
 have h9 := hp 9 (by decide)
 unfold keyOf WN
 simp only [Z8]
 rw [if_pos (by simp [hkt, Value.formed, Z8, c0]), hm]
 unfold Program.keyLits
 simp only [Z8, Value.cells]
 rw [if_pos (by rw [c0]; rfl), show List.range 10 = [0, 1, 2, 3, 4, 5, 6, 7, 8, 9] from rfl]
 simp only [List.mapM_cons, List.mapM_nil, c1]
 simp [h0, h1, h2, h3, h4, h5, h6, h7, h8, h9]
theorem J7 : ∀ (K : Nat) (l : List Nat), l.Nodup → (∀ x ∈ l, x < K) → l.length ≤ K
 | 0, l, _, h => by
  cases l with
  | nil => exact Nat.le_refl _
  | cons a r => exact absurd (h a (by simp)) (by omega)
 | K + 1, l, hn, h => by
  by_cases hk : K ∈ l
  ·have h2 := J7 K (l.erase K) (hn.erase K) (fun x hx => by
    have h3 := h x (List.mem_of_mem_erase hx)
    have : x ≠ K := fun e => by subst e; exact hn.not_mem_erase hx
    omega)
   rw [List.length_erase_of_mem hk] at h2
   omega
  ·have := J7 K l hn (fun x hx => by
    have h3 := h x hx
    have : x ≠ K := fun e => hk (e ▸ hx)
    omega)
   omega
theorem qav {P : Program} {k : TypeId} {R : Value → Option (DataW Value × List MemPlace)} {w : World} {b n : Nat} {D : DataW Value} (h : w.ownsMap P k R b n D) (K : Keyed P k) (code : Lit → Nat) (N : Nat)
  (qjb : ∀ es, D = .map es → ∀ p ∈ es, ∀ q ∈ es, code p.1 = code q.1 → p.1 = q.1) (zb : ∀ es, D = .map es → ∀ p ∈ es, code p.1 < N) : Maps.size D ≤ N := by
 obtain ⟨es, rfl, hd, _⟩ := h.entries K
 rw [size_eq]
 have hl : es.length = (es.map fun p => code p.1).length := by simp
 rw [hl]
 refine J7 N _ ?_ (fun x hx => ?_)
 ·rw [List.nodup_iff_pairwise_ne, List.pairwise_map]
  refine hd.imp_of_mem ?_
  intro p q hp hq hne e
  exact hne (qjb es rfl p hp q hq e)
 ·rw [List.mem_map] at hx
  obtain ⟨p, hp, rfl⟩ := hx
  exact zb es rfl p hp
theorem qbs {P : Program} {k : TypeId} {R : Value → Option (DataW Value × List MemPlace)} {w : World} {b n : Nat} {D : DataW Value} (h : w.ownsMap P k R b n D) : w.ownsMap P k R b (Maps.size D) D := by
 obtain ⟨es, clock, hb, F, hs, hD⟩ := h
 refine ⟨es, clock, hb, F, ?_, hD⟩
 rw [hD]
 simp [Maps.size, length_sorted]
theorem Xp {α : Type} : ∀ (l m : List α), l.Nodup → (∀ x ∈ l, x ∈ m) → l.length ≤ m.length
 | [], m, _, _ => Nat.zero_le _
 | a :: r, m, hn, h => by
  obtain ⟨s, t, rfl⟩ := List.append_of_mem (h a (by simp))
  rw [List.nodup_cons] at hn
  have := Xp r (s ++ t) hn.2 (fun x hx => by
   have h1 := h x (by simp [hx])
   simp only [List.mem_append, List.mem_cons] at h1 ⊢
   rcases h1 with h1 | h1 | h1
   ·exact .inl h1
   ·subst h1; exact absurd hx hn.1
   ·exact .inr h1)
  simp only [List.length_append, List.length_cons] at this ⊢
  omega
open Classical in
noncomputable def pos : List Lit → Lit → Option Nat
 | [], _ => none
 | a :: r, l => if l = a then some 0 else (pos r l).map (· + 1)
theorem J4 : ∀ {es : List Lit} {l : Lit} {k : Nat}, pos es l = some k → k < es.length ∧ es[k]? = some l
 | [], _, _, h => by cases h
 | a :: r, l, k, h => by
  unfold pos at h
  split at h
  ·rename_i e; cases h; subst e; exact ⟨by simp, rfl⟩
  ·cases hp : pos r l with
   | none => rw [hp] at h; cases h
   | some j =>
    rw [hp] at h; cases h
    obtain ⟨h1, h2⟩ := J4 hp
    exact ⟨by simp; omega, by simpa using h2⟩
theorem qau : ∀ {es : List Lit} (fs : List Lit) {l : Lit} {k : Nat}, pos es l = some k → pos (es ++ fs) l = some k
 | [], _, _, _, h => by cases h
 | a :: r, fs, l, k, h => by
  rw [List.cons_append]
  unfold pos at h ⊢
  split at h
  ·rename_i e; rw [if_pos e]; exact h
  ·rename_i e
   rw [if_neg e]
   cases hp : pos r l with
   | none => rw [hp] at h; cases h
   | some j => rw [qau fs hp]; rw [hp] at h; exact h
theorem QO : ∀ {es : List Lit} {l : Lit}, pos es l = none ↔ l ∉ es
 | [], _ => by simp [pos]
 | a :: r, l => by
  unfold pos
  split
  ·rename_i e; simp [e]
  ·rename_i e
   rw [Option.map_eq_none_iff, QO]
   simp [e]
theorem Jp : ∀ {es : List Lit} {l : Lit}, pos es l = none → pos (es ++ [l]) l = some es.length
 | [], l, _ => by simp [pos]
 | a :: r, l, h => by
  rw [QO] at h
  rw [List.mem_cons, not_or] at h
  rw [List.cons_append]
  unfold pos
  rw [if_neg h.1, Jp (QO.2 h.2)]
  simp
theorem Yj : ∀ {es : List Lit} {l m : Lit}, l ≠ m → pos (es ++ [m]) l = pos es l
 | [], l, m, h => by simp [pos, h]
 | a :: r, l, m, h => by
  rw [List.cons_append]
  unfold pos
  rw [Yj h]
def RV (v : Value) : Option (DataW Value × List MemPlace) := some (.held v, [])
structure jq (k : TypeId) (w : World) (b : Nat) (code : Lit → Nat) (N : Nat) (ok : Lit → Prop) (L : Lit → Option Value) : Prop where
 own : ∃ n D, w.ownsMap prog k RV b n D ∧ (∀ l, WideAt.IsKeyLit l → (has D l = (L l).isSome ∧ ∀ v, L l = some v → ∀ z, D.atKey l z = .held v))
 isOk : ∀ l, WideAt.IsKeyLit l → (L l).isSome = true → ok l
 inj : ∀ l m, ok l → ok m → code l = code m → l = m
 lt : ∀ l, ok l → code l < N
 max : N < maxLen
section
variable {k : TypeId} {w : World} {b N : Nat} {code : Lit → Nat} {ok : Lit → Prop} {L : Lit → Option Value}
theorem jq.blt (h : jq k w b code N ok L) : b < w.heap.size := by
 obtain ⟨n, D, h1, _⟩ := h.own
 exact h1.lt
theorem jq.of_heap {w' : World} (h : jq k w b code N ok L) (e : w'.heap[b]? = w.heap[b]?) : jq k w' b code N ok L := by
 obtain ⟨n, D, ⟨es, clock, hb, r⟩, h2⟩ := h.own
 exact ⟨⟨n, D, ⟨es, clock, e.trans hb, r⟩, h2⟩, h.isOk, h.inj, h.lt, h.max⟩
theorem jq.noCell (h : jq k w b code N ok L) (j : Nat) : w.cell? ⟨b, j, none⟩ = none := by
 obtain ⟨n, D, ⟨es, clock, hb, r⟩, h2⟩ := h.own
 simp [World.cell?, hb]
theorem jq.look_ok (h : jq k w b code N ok L) (K : Keyed prog k) {t e : TypeId} (ht : Tryz.prog.underlying t = some (.map k e)) {z : Value} (hz : ∀ w, (zeroValue e).run prog w = .ok z w) {key : Value} {kl : Lit} (vD : keyOf prog k key = some kl) :
  ∃ v, (Instr.lookup t (.map (some b)) key true).run prog w = .ok (.tuple #[v, .bool (L kl).isSome]) w ∧ ∀ u, L kl = some u → v = u := by
 obtain ⟨n, D, h1, h2⟩ := h.own
 obtain ⟨v, ps, kO, hv⟩ := h1.look_ok K ht (hz w) (zd := .held z) (zp := []) rfl vD
 obtain ⟨e1, e2⟩ := h2 kl (K.key vD)
 refine ⟨v, by rw [kO, e1], fun u hu => ?_⟩
 rw [e2 u hu] at hv
 cases hv; rfl
theorem jq.look (h : jq k w b code N ok L) (K : Keyed prog k) {t e : TypeId} (ht : Tryz.prog.underlying t = some (.map k e)) {z : Value} (hz : ∀ w, (zeroValue e).run prog w = .ok z w) {key : Value} {kl : Lit} (vD : keyOf prog k key = some kl) :
  (Instr.lookup t (.map (some b)) key false).run prog w = .ok ((L kl).getD z) w := by
 obtain ⟨n, D, h1, h2⟩ := h.own
 obtain ⟨v, ps, kO, hv⟩ := h1.lookup K ht (hz w) (zd := .held z) (zp := []) rfl vD
 obtain ⟨e1, e2⟩ := h2 kl (K.key vD)
 cases hl : L kl with
 | some u =>
  rw [e2 u hl] at hv
  cases hv
  exact kO
 | none =>
  rw [hl] at e1
  rw [atKey_of_not_has e1] at hv
  cases hv
  exact kO
theorem jq.len (h : jq k w b code N ok L) {t e : TypeId} (ht : Tryz.prog.underlying t = some (.map k e)) (ty : TypeId) (K : Keyed prog k) : ∃ m : Nat, m ≤ N ∧ (Builtin.len_ #[t] ty #[.map (some b)]).run prog w = .ok (.int .i64 m) w ∧ ∀ (es : List Lit), es.Nodup → (∀ l ∈ es, WideAt.IsKeyLit l ∧ (L l).isSome = true) → (∀ l, WideAt.IsKeyLit l → (L l).isSome = true → l ∈ es) → m = es.length := by
 obtain ⟨n, D, h1, h2⟩ := h.own
 obtain ⟨qs, rfl, hd, jl⟩ := h1.entries K
 have VJ : ∀ p ∈ qs, (L p.1).isSome = true := fun p hp => by
  rw [← (h2 p.1 (jl p hp)).1, has_eq, List.any_eq_true]
  exact ⟨p, hp, WideAt.sameKey_self (jl p hp)⟩
 refine ⟨qs.length, ?_, ?_, ?_⟩
 ·have := qav h1 K code N (fun es e p hp q hq he => by
   cases e
   exact h.inj _ _ (h.isOk _ (jl p hp) (VJ p hp)) (h.isOk _ (jl q hq) (VJ q hq)) he) (fun es e p hp => by
   cases e
   exact h.lt _ (h.isOk _ (jl p hp) (VJ p hp)))
  rwa [size_eq] at this
 ·have := h1.len ht ty
  rwa [size_eq] at this
 ·intro es hes hA hB
  have hl : qs.length = (qs.map (·.1)).length := by simp
  rw [hl]
  have hn1 : (qs.map (·.1)).Nodup := by
   rw [List.nodup_iff_pairwise_ne, List.pairwise_map]; exact hd
  refine Nat.le_antisymm ?_ ?_
  ·refine Xp _ _ hn1 (fun l hl => ?_)
   obtain ⟨p, hp, rfl⟩ := List.mem_map.1 hl
   exact hB _ (jl p hp) (VJ p hp)
  ·refine Xp _ _ hes (fun l hl => ?_)
   obtain ⟨hk, hs⟩ := hA l hl
   rw [← (h2 l hk).1, has_eq, List.any_eq_true] at hs
   obtain ⟨p, hp, e⟩ := hs
   have := WideAt.sameKey_eq e
   exact List.mem_map.2 ⟨p, hp, this⟩
open Classical in
theorem jq.update (h : jq k w b code N ok L) (K : Keyed prog k) {t e : TypeId} (ht : Tryz.prog.underlying t = some (.map k e)) {key val : Value} {kl : Lit} (vD : keyOf prog k key = some kl) (Qt : ok kl) :
  ∃ w', (Instr.mapUpdate t (.map (some b)) key val).run prog w = .ok () w' ∧ jq k w' b code N ok (fun l => if l = kl then some val else L l) ∧ w.grownBy w' (some b) := by
 obtain ⟨n, D, h1, h2⟩ := h.own
 obtain ⟨qs, hD, hd, jl⟩ := h1.entries K
 have kR : Maps.size D ≤ N := qav h1 K code N (fun es e p hp q hq he => by
   rw [hD] at e
   cases e
   have VJ : ∀ p ∈ qs, (L p.1).isSome = true := fun p hp => by
    rw [← (h2 p.1 (jl p hp)).1, hD, has_eq, List.any_eq_true]
    exact ⟨p, hp, WideAt.sameKey_self (jl p hp)⟩
   exact h.inj _ _ (h.isOk _ (jl p hp) (VJ p hp)) (h.isOk _ (jl q hq) (VJ q hq)) he) (fun es e p hp => by
   rw [hD] at e
   cases e
   exact h.lt _ (h.isOk _ (jl p hp) (by
    rw [← (h2 p.1 (jl p hp)).1, hD, has_eq, List.any_eq_true]
    exact ⟨p, hp, WideAt.sameKey_self (jl p hp)⟩)))
 have qfD := h.max
 obtain ⟨w', kO, h3, h4⟩ := (qbs h1).update K ht (by omega) vD (val := val) (d := .held val) (ps := []) rfl
 refine ⟨w', kO, ⟨⟨_, _, h3, fun l hl => ?_⟩, fun l hl hs => ?_, h.inj, h.lt, h.max⟩, h4⟩
 ·have him : IsMap D := ⟨qs, hD⟩
  by_cases e : l = kl
  ·subst e
   simp only [if_true]
   exact ⟨has_put_same him hl _, fun v hv z => by cases hv; exact atKey_put_same him hl _ _⟩
  ·rw [if_neg e]
   obtain ⟨e1, e2⟩ := h2 l hl
   exact ⟨by rw [has_put_other e]; exact e1, fun v hv z => by rw [atKey_put_other e]; exact e2 v hv z⟩
 ·by_cases e : l = kl
  ·subst e; exact Qt
  ·rw [if_neg e] at hs
   exact h.isOk l hl hs
theorem jq.made (k : TypeId) (w : World) (code : Lit → Nat) (N : Nat) (ok : Lit → Prop) (qjb : ∀ l m, ok l → ok m → code l = code m → l = m) (zb : ∀ l, ok l → code l < N) (qfD : N < maxLen) : jq k (w.alloc (.map #[] 0)) w.heap.size code N ok (fun _ => none) :=
 ⟨⟨0, .map [], World.ownsMap_made w prog k RV, fun l hl => ⟨rfl, fun v hv => by cases hv⟩⟩, fun l hl hs => (by cases hs), qjb, zb, qfD⟩
end
end Go.Proofs.YtjgegohidhdbpaaGreatDoor
namespace Go.Proofs.YtjgegohidhdbpaaGreatDoor
open Go.RowKit Go.Proofs.YtjgegohidhdbpaaGreatDoor.Fl
theorem Y6 (m : Int) : compare m m = .eq := by simp
end Go.Proofs.YtjgegohidhdbpaaGreatDoor
