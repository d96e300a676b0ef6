/- The document's own tables. -/
import Derived.Test.YtjgegohidhdbpaaGreatDoorJMeE
set_option linter.unusedVariables false
set_option linter.unusedSimpArgs false
set_option maxRecDepth 100000
set_option maxHeartbeats 40000000
namespace Go.Proofs.YtjgegohidhdbpaaGreatDoor
open Go.RowKit
structure Qi (w : World) (B b m n c0 : Nat) (R : Nat → Nat) : Prop where
 top : qm w b m 145 (fun c => if c < c0 then zF (R c) n else .slice none 0 0)
 row : ∀ c, c < c0 → qm w (R c) n 4 (bR fun _ => false)
 inj : ∀ c d, c < c0 → d < c0 → R c = R d → c = d
 ne : ∀ c, c < c0 → R c ≠ b ∧ B ≤ R c
 own : B ≤ b
section
variable {w : World} {B b m n c0 : Nat} {R : Nat → Nat}
theorem Qi.part (h : Qi w B b m n m R) : Part w B b m n 0 R (fun _ _ => false) :=
 ⟨h.top.congr fun i hi => by rw [if_pos hi, if_pos (Nat.zero_le _)], fun c _ hc => h.row c hc, fun c d _ hc _ hd e => h.inj c d hc hd e, fun c _ hc => h.ne c hc, h.own⟩
theorem Qi.more (h : Qi w B b m n c0 R) (hc : c0 < m) (hB : B ≤ w.heap.size) (A : Array Value) (hA : A = ((List.range n).map (bR fun _ => false)).toArray) : Qi ((w.setCell ⟨b, c0, none⟩ (zF w.heap.size n)).alloc (.cells A 4)) B b m n (c0 + 1) (fun c => if c = c0 then w.heap.size else R c) := by
 subst hA
 have zb : ∀ c, c < c0 → R c < w.heap.size := fun c h1 => (h.row c h1).lt
 have hbl := h.top.lt
 have kR : (w.setCell ⟨b, c0, none⟩ (zF w.heap.size n)).heap.size = w.heap.size := World.size_setCell _ _ _
 have hA : ∀ o : Obj, Below w.heap.size (w.setCell ⟨b, c0, none⟩ (zF w.heap.size n)) ((w.setCell ⟨b, c0, none⟩ (zF w.heap.size n)).alloc o) := fun o => (Below.refl _ _).alloc (by omega) o
 refine ⟨?_, fun c h1 => ?_, fun c d h1 h2 e => ?_, fun c h1 => ?_, h.own⟩
 ·refine ((h.top.set c0 (zF w.heap.size n)).below (hA (.cells ((List.range n).map (bR fun _ => false)).toArray 4)) hbl).congr fun c Vv => ?_
  by_cases q : c = c0
  ·subst q; simp
  ·by_cases q1 : c < c0
   ·have : c < c0 + 1 := by omega
    simp [q, q1, this]
   ·have : ¬ c < c0 + 1 := by omega
    simp [q, q1, this]
 ·by_cases q : c = c0
  ·subst q
   have hn := qm.new (w.setCell ⟨b, c, none⟩ (zF w.heap.size n)) n 4 (bR fun _ => false)
   rw [kR] at hn
   simpa [bR] using hn
  ·have h1' : c < c0 := by omega
   have hr := ((h.row c h1').other (p := ⟨b, c0, none⟩) (h.ne c h1').1 (zF w.heap.size n)).below (hA (.cells ((List.range n).map (bR fun _ => false)).toArray 4)) (zb c h1')
   simpa [bR, q] using hr
 ·by_cases q : c = c0
  ·by_cases q2 : d = c0
   ·omega
   ·have := zb d (by omega)
    simp only [q, q2, if_true, if_false] at e
    omega
  ·by_cases q2 : d = c0
   ·have := zb c (by omega)
    simp only [q, q2, if_true, if_false] at e
    omega
   ·simp only [q, q2, if_false] at e
    exact h.inj c d (by omega) (by omega) e
 ·by_cases q : c = c0
  ·simp only [q, if_true]; omega
  ·simp only [q, if_false]; exact h.ne c (by omega)
end
theorem Part.below {w w' : World} {B b m n c0 : Nat} {R : Nat → Nat} {F : Nat → Nat → Bool} (h : Part w B b m n c0 R F) (hB : Below w.heap.size w w') : Part w' B b m n c0 R F :=
 ⟨h.top.below hB h.top.lt, fun c h1 h2 => (h.row c h1 h2).below hB (h.row c h1 h2).lt, h.inj, h.ne, h.own⟩
theorem yT.other {w : World} {b m n : Nat} {R : Nat → Nat} {F : Nat → Nat → Bool} (h : yT w b m n R F) {r p : Nat} (h1 : b ≠ r) (h2 : ∀ c, c < m → R c ≠ r) (v : Value) : yT (w.setCell ⟨r, p, none⟩ v) b m n R F :=
 ⟨h.top.other (p := ⟨r, p, none⟩) h1 v, fun c hc => (h.row c hc).other (p := ⟨r, p, none⟩) (h2 c hc) v⟩
def vz (RT : Nat → Nat) (n m : Nat) : List Value := (List.range m).map fun k => zF (RT k) n
theorem qbd (RT : Nat → Nat) (n m : Nat) : vz RT n (m + 1) = vz RT n m ++ [zF (RT m) n] := by simp [vz, List.range_succ]
theorem U0 {RT RT' : Nat → Nat} {n m : Nat} (h : ∀ k, k < m → RT k = RT' k) : vz RT n m = vz RT' n m := List.map_congr_left fun k hk => by rw [h k (List.mem_range.1 hk)]
structure KG (w X : World) (gv : Value) (m n B : Nat) (RT : Nat → Nat) (RR : Nat → Nat → Nat) (G : Nat → Nat → Nat → Bool) : Prop where
 grid : ∀ k, k < m → yT X (RT k) n n (RR k) (G k)
 lo : ∀ k, k < m → RT k < B ∧ ∀ c, c < n → RR k c < B
 bel : Below w.heap.size w X
 le : B ≤ X.heap.size
theorem KG.below {w X Y : World} {gv : Value} {m n B : Nat} {RT : Nat → Nat} {RR : Nat → Nat → Nat} {G : Nat → Nat → Nat → Bool} (h : KG w X gv m n B RT RR G) (hB : Below X.heap.size X Y) : KG w Y gv m n B RT RR G :=
 ⟨fun k hk => (h.grid k hk).below hB, h.lo, h.bel.trans (hB.mono h.bel.size), Nat.le_trans h.le hB.size⟩
def zN (s : List UInt8) (G : Nat → Nat → Nat → Bool) (x : Nd) (i j : Nat) : Bool := if x.kind = 6 then Qj (G x.a.toNat) x.mn x.mx j (j + 2) 0 i else Qh s G x i j
theorem qm.grown {X Y : World} {b n : Nat} {t : TypeId} {V : Nat → Value} {r : Option Nat} (h : qm X b n t V) (hg : X.grownBy Y r) (hr : ∀ k, r = some k → k ≠ b) : qm Y b n t V :=
 ⟨(hg.block b h.lt (fun e => hr b e.symm rfl)).trans h.heap⟩
theorem yT.grown {X Y : World} {b m n : Nat} {R : Nat → Nat} {F : Nat → Nat → Bool} {r : Option Nat} (h : yT X b m n R F) (hg : X.grownBy Y r) (h1 : ∀ k, r = some k → k ≠ b) (h2 : ∀ k c, r = some k → c < m → k ≠ R c) : yT Y b m n R F :=
 ⟨h.top.grown hg h1, fun c hc => (h.row c hc).grown hg (fun k e => h2 k c e hc)⟩
theorem Q7 {X : World} {B0 m b n : Nat} {gv : Value} {xs : List Value} {t : TypeId} {V : Nat → Value} (ho : X.ownsRow B0 144 1 gv m xs) (hv : qm X b n t V) (ht : t ≠ 144) : ∀ k, gv.ownBlock = some k → k ≠ b := by
 intro k e q
 subst q
 rcases ho.2 with ⟨rfl, _⟩ | ⟨g, cap, cur, rfl, _, hg, _⟩
 ·simp [Value.ownBlock] at e
 ·obtain rfl : g = k := by simpa [Value.ownBlock] using e
  rw [hv.heap] at hg
  cases hg
  exact ht rfl
theorem qdu {X Y : World} {B0 l b m n : Nat} {gv : Value} {xs : List Value} {R : Nat → Nat} {F : Nat → Nat → Bool} (ho : X.ownsRow B0 144 1 gv l xs) (h : yT X b m n R F) (hg : X.grownBy Y gv.ownBlock) : yT Y b m n R F :=
 h.grown hg (Q7 ho h.top (by decide)) (fun k c e hc => Q7 ho (h.row c hc) (by decide) k e)
theorem qbe {X Y : World} {B0 l B b m n c0 : Nat} {gv : Value} {xs : List Value} {R : Nat → Nat} (ho : X.ownsRow B0 144 1 gv l xs) (h : Qi X B b m n c0 R) (hg : X.grownBy Y gv.ownBlock) : Qi Y B b m n c0 R :=
 ⟨h.top.grown hg (Q7 ho h.top (by decide)), fun c hc => (h.row c hc).grown hg (Q7 ho (h.row c hc) (by decide)), h.inj, h.ne, h.own⟩
theorem Qi.below {w w' : World} {B b m n c0 : Nat} {R : Nat → Nat} (h : Qi w B b m n c0 R) (hB : Below w.heap.size w w') : Qi w' B b m n c0 R :=
 ⟨h.top.below hB h.top.lt, fun c h1 => (h.row c h1).below hB (h.row c h1).lt, h.inj, h.ne, h.own⟩
theorem qaj {X : World} {B0 m r n : Nat} {gv : Value} {xs : List Value} {t : TypeId} {V : Nat → Value} (ho : X.ownsRow B0 144 1 gv m xs) (hv : qm X r n t V) (ht : t ≠ 144) (p : Nat) (v : Value) : (X.setCell ⟨r, p, none⟩ v).ownsRow B0 144 1 gv m xs := by
 refine ho.kept (row := some r) ⟨rfl, rfl, rfl, by rw [World.size_setCell]; exact Nat.le_refl _, fun k _ hk => Below.heap_setCell _ _ _ k (fun e => hk (by rw [e]))⟩ (.inr (fun e => Q7 ho hv ht r e rfl))
theorem vM {X Y : World} {B : Nat} {e : TypeId} {sz n : Nat} {v : Value} {xs : List Value} (h : X.ownsRow B e sz v n xs) (hB : Below X.heap.size X Y) : Y.ownsRow B e sz v n xs :=
 h.kept (row := none) ⟨hB.os, hB.tape, hB.output, hB.size, fun k hk _ => hB.block k hk⟩ (by cases q : v.ownBlock with
  | none => exact .inl rfl
  | some b => exact .inr (by simp))
theorem qiK : (Tryz.prog.info? 144).map (fun i => (i.zero, i.size, i.bytes)) = some (some (.slice none 0 0), 1, 24) := by kernel_rfl
theorem KG.put {w X : World} {gv : Value} {m n B : Nat} {RT : Nat → Nat} {RR : Nat → Nat → Nat} {G : Nat → Nat → Nat → Bool} (h : KG w X gv m n B RT RR G) {r p : Nat} (hr : B ≤ r) (hw : w.heap.size ≤ r) (v : Value) : KG w (X.setCell ⟨r, p, none⟩ v) gv m n B RT RR G :=
 ⟨fun k hk => (h.grid k hk).other (by have := (h.lo k hk).1; omega) (fun c hc => by have := (h.lo k hk).2 c hc; omega) v, h.lo, h.bel.setCell hw v, by rw [World.size_setCell]; exact h.le⟩
def yU {α : Type} (f : Nat → α) (k : Nat) (v : α) : Nat → α := fun q => if q = k then v else f q
theorem ku {α : Type} {f : Nat → α} {k : Nat} {v : α} : yU f k v k = v := if_pos rfl
theorem zL {α : Type} {f : Nat → α} {k q : Nat} {v : α} (h : q ≠ k) : yU f k v q = f q := if_neg h
structure Qs (w X : World) (gv : Value) (k n bt : Nat) (RT : Nat → Nat) (RR : Nat → Nat → Nat) (G : Nat → Nat → Nat → Bool) (R : Nat → Nat) (F : Nat → Nat → Bool) : Prop where
 own : X.ownsRow w.heap.size 144 1 gv (k + 1) (vz (yU RT k bt) n (k + 1))
 old : KG w X gv k n bt RT RR G
 cur : Part X bt bt n n 0 R F
section
variable {w X : World} {gv : Value} {k n bt : Nat} {RT : Nat → Nat} {RR : Nat → Nat → Nat} {G : Nat → Nat → Nat → Bool} {R : Nat → Nat} {F : Nat → Nat → Bool}
theorem Qs.below {Y : World} (h : Qs w X gv k n bt RT RR G R F) (hB : Below X.heap.size X Y) : Qs w Y gv k n bt RT RR G R F := ⟨vM h.own hB, h.old.below hB, h.cur.below hB⟩
theorem Qs.put (h : Qs w X gv k n bt RT RR G R F) (i j : Nat) (hi : i < n) (hw : w.heap.size ≤ bt) (v : Bool) : Qs w (X.setCell ⟨R i, j, none⟩ (.bool v)) gv k n bt RT RR G R (fun a c => if a = i ∧ c = j then v else F a c) :=
 ⟨qaj h.own (h.cur.row i (Nat.zero_le _) hi) (by decide) j _, h.old.put (h.cur.ne i (Nat.zero_le _) hi).2 (by have := (h.cur.ne i (Nat.zero_le _) hi).2; omega) _, h.cur.set i j (Nat.zero_le _) hi v⟩
theorem Qs.tabs (h : Qs w X gv k n bt RT RR G R F) : KG w X gv (k + 1) n X.heap.size (yU RT k bt) (yU RR k R) (yU G k F) := by
 refine ⟨fun q hq => ?_, fun q hq => ?_, h.old.bel, Nat.le_refl _⟩
 ·by_cases e : q = k
  ·subst e; rw [ku, ku, ku]; exact h.cur.grid
  ·rw [zL e, zL e, zL e]; exact h.old.grid q (by omega)
 ·by_cases e : q = k
  ·subst e; rw [ku, ku]
   exact ⟨h.cur.top.lt, fun c hc => (h.cur.row c (Nat.zero_le _) hc).lt⟩
  ·rw [zL e, zL e]
   have := h.old.lo q (by omega)
   have hl := h.old.le
   exact ⟨by omega, fun c hc => by have := this.2 c hc; omega⟩
theorem Qs.tabR (h : Qs w X gv k n bt RT RR G R F) : ∃ g cap, gv = .slice (some ⟨g, 0, none⟩) (k + 1) cap ∧ w.heap.size ≤ g ∧ yw X g (k + 1) n (yU RT k bt) (yU RR k R) (yU G k F) := by
 rcases h.own.2 with ⟨_, h0⟩ | ⟨g, cap, cur, e, ZX, hg, h1, h2, _, ht⟩
 ·omega
 ·refine ⟨g, cap, e, ZX, (Array.getElem?_eq_some_iff.1 hg).1, fun q hq => ?_, h.tabs.grid⟩
  have h3 : (cur.toList.take ((k + 1) * 1))[q]? = (vz (yU RT k bt) n (k + 1))[q]? := by rw [ht]
  rw [List.getElem?_take_of_lt (by omega)] at h3
  have h4 : (vz (yU RT k bt) n (k + 1))[q]? = some (zF (yU RT k bt q) n) := by
   unfold vz
   rw [List.getElem?_map, List.getElem?_range hq]; rfl
  rw [h4, Array.getElem?_toList] at h3
  simp [World.cell?, hg, h3, zF]
end
theorem Qs.tabS {w X : World} {g l cap : Nat} {k n bt : Nat} {RT : Nat → Nat} {RR : Nat → Nat → Nat} {G : Nat → Nat → Nat → Bool} {R : Nat → Nat} {F : Nat → Nat → Bool} (h : Qs w X (.slice (some ⟨g, 0, none⟩) l cap) k n bt RT RR G R F) : yw X g (k + 1) n (yU RT k bt) (yU RR k R) (yU G k F) := by
 obtain ⟨g', cap', e, _, hT⟩ := h.tabR
 simp only [Value.slice.injEq, Option.some.injEq, Addr.mk.injEq] at e
 obtain ⟨⟨rfl, _⟩, _, _⟩ := e
 exact hT
theorem KI {s : List UInt8} {G : Nat → Nat → Nat → Bool} {k : Nat} {F : Nat → Nat → Bool} {x : Nd} (h : ((x.kind = 0 ∨ x.kind = 1 ∨ x.kind = 2 ∨ x.kind = 3) ∨ ((x.kind = 4 ∨ x.kind = 5) ∧ ∃ a c : Nat, x.a = (a : Int) ∧ x.b = (c : Int) ∧ a < k ∧ c < k) ∨ ((x.kind = 6 ∨ x.kind = 7) ∧ ∃ a : Nat, x.a = (a : Int) ∧ a < k))) (i j : Nat) : zN s (yU G k F) x i j = zN s G x i j := by
 rcases h with h | ⟨h, a, c, ha, hc, ha2, vI⟩ | ⟨h, a, ha, ha2⟩
 ·unfold zN Qh
  rcases h with h | h | h | h <;> rw [h] <;> rfl
 ·have e1 : yU G k F x.a.toNat = G x.a.toNat := zL (by rw [ha, Int.toNat_natCast]; omega)
  have e2 : yU G k F x.b.toNat = G x.b.toNat := zL (by rw [hc, Int.toNat_natCast]; omega)
  unfold zN Qh
  rw [e1, e2]
 ·have e1 : yU G k F x.a.toNat = G x.a.toNat := zL (by rw [ha, Int.toNat_natCast]; omega)
  unfold zN Qh
  rw [e1]
  rcases h with h | h <;> rw [h] <;> rfl
end Go.Proofs.YtjgegohidhdbpaaGreatDoor
