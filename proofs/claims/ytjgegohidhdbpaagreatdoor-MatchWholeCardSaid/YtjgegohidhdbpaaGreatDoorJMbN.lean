/- A trial: leaver. -/
import Derived.Test.YtjgegohidhdbpaaGreatDoorJMcC
import Derived.Test.YtjgegohidhdbpaaGreatDoorJSpanD
import Derived.Deep.RegionWith
open Go.Proofs.Tryz
set_option linter.unusedVariables false
set_option linter.unusedSimpArgs false
set_option maxRecDepth 100000
set_option maxHeartbeats 40000000
namespace Go.Proofs.YtjgegohidhdbpaaGreatDoor
open Go.RowKit Go.Maps Go.WideMaps
section
variable {X : Nat} {v : kU} {s : List UInt8} {xs : List Nd} {B : Nat} {c1 : Lit → Nat} {n1 : Nat} {P1 : Lit → Prop} {c2 : Lit → Nat} {n2 : Nat} {M2 : Nat → Prop} {J : (Nat → Prop) → List Lit → World → Prop}
theorem Kh (jx : JX X v s xs B c1 n1 P1 c2 n2 M2 J) (fx : Fx v s xs B P1) (a m p : Nat) (ta tm : T) (ha : a < v.n) (hm : m < v.n) (hta : zT (fun i => xs[i]?) ta a) (htm : zT (fun i => xs[i]?) tm m) (hL : ∀ k, p ≤ k → k ≤ s.length → kX X v s M2 J a ta p k)
  (had : Cp) (E : Nat → Prop) (es : List Lit) (w : World) (hc : qo s.length had) (hJ : J E es w) (hE : ∀ b, E b → b < w.heap.size) :
  Calls prog 142 #[.pointer (some ⟨X, 0, none⟩), .int .i64 a, .int .i64 m, .int .i64 p, qk had] w fun e w' => ∃ (K : FuncId) (cap : Array Value), e = .returned (.func (.func K) #[] cap) ∧ (∀ S, qb S w w') ∧ ∀ k, p ≤ k → k ≤ s.length → QK v M2 J K cap k (qW (qd s ta) (qd s tm).asked p had k) E es w' := by
 have iv := jx.iv hJ
 obtain ⟨lX, llb, lrb, lbn, lbr, lbl, lw⟩ := iv.lts
 have ZD := ξ (fun b hb => (jx.lt hJ b hb).1)
 have Vu : ∀ S, qb S w ((((w.alloc (.cells #[.pointer (some ⟨X, 0, none⟩)] 63)).alloc (.cells #[.int .i64 a] 3)).alloc (.cells #[.int .i64 p] 3)).alloc (.cells (cH had) 27)) := fun S => ((((qb.refl S w).alloc _).alloc _).alloc _).alloc _
 have iv0 := iv.keeps (Vu _)
 have x2 := iv0.tr.c2
 have ra := (iv0.role ha hta).c2
 have rm := (iv0.role hm htm).c0
 have hand := qdM (qd s ta).ever (qd s tm).asked
 have qjP := qgk (G := (qd s ta).ever) (H := (qd s tm).asked)
 have hn := fx.n2
 have b1 : zG ((((w.alloc (.cells #[.pointer (some ⟨X, 0, none⟩)] 63)).alloc (.cells #[.int .i64 a] 3)).alloc (.cells #[.int .i64 p] 3)).alloc (.cells (cH had) 27)) w.heap.size #[.pointer (some ⟨X, 0, none⟩)] 63 := (((zG.new w _ _).alloc _).alloc _).alloc _
 have b2 : zG ((((w.alloc (.cells #[.pointer (some ⟨X, 0, none⟩)] 63)).alloc (.cells #[.int .i64 a] 3)).alloc (.cells #[.int .i64 p] 3)).alloc (.cells (cH had) 27)) (w.heap.size + 1) #[.int .i64 a] 3 := by
  have := zG.new (w.alloc (.cells #[.pointer (some ⟨X, 0, none⟩)] 63)) #[.int .i64 a] 3
  rw [World.size_alloc] at this
  exact (this.alloc _).alloc _
 have b3 : zG ((((w.alloc (.cells #[.pointer (some ⟨X, 0, none⟩)] 63)).alloc (.cells #[.int .i64 a] 3)).alloc (.cells #[.int .i64 p] 3)).alloc (.cells (cH had) 27)) (w.heap.size + 2) #[.int .i64 p] 3 := by
  have := zG.new ((w.alloc (.cells #[.pointer (some ⟨X, 0, none⟩)] 63)).alloc (.cells #[.int .i64 a] 3)) #[.int .i64 p] 3
  rw [World.size_alloc, World.size_alloc] at this
  exact this.alloc _
 have b4 : zG ((((w.alloc (.cells #[.pointer (some ⟨X, 0, none⟩)] 63)).alloc (.cells #[.int .i64 a] 3)).alloc (.cells #[.int .i64 p] 3)).alloc (.cells (cH had) 27)) (w.heap.size + 3) (cH had) 27 := by
  have := zG.new (((w.alloc (.cells #[.pointer (some ⟨X, 0, none⟩)] 63)).alloc (.cells #[.int .i64 a] 3)).alloc (.cells #[.int .i64 p] 3)) (cH had) 27
  rw [World.size_alloc, World.size_alloc, World.size_alloc] at this
  exact this
 have HBL := ξ (ζ b1 (ζ b2 (ζ b3 b4)))
 have q1 := b1.cell 0; have q2 := b2.cell 0
 simp only [List.getElem?_toArray, List.getElem?_cons_zero] at q1 q2
 have HX := ξ jx
 have HE := ξ hE
 have HC := ξ hc
 have HK0 := ξ Vu
 have HL := ξ hL
 have kD := ξ (fun (b : Nat) (hb : w.heap.size ≤ b) => (show ¬ ((Mt v b ∨ M2 b) ∨ E b) from fun e => by
  rcases e with (e | e) | e
  ·rcases e with e | e | e <;> omega
  ·have := ZD.out b e; omega
  ·have := hE b e; omega))
 obtain ⟨D, hD⟩ : ∃ D, D = gw (fun g => (qd s ta).ever g && (qd s tm).asked g) := ⟨_, rfl⟩
 rw [← hD] at hand qjP
 have HDIS := ξ qjP
 generalize gw (qd s ta).ever = A1 at *
 generalize gw (qd s tm).asked = A2 at *
 clear iv iv0 Vu b1 b2 b3 b4 jx hE hJ hL hc hD qjP
 unfold qk
 cases hd : qdP (qd s ta).ever (qd s tm).asked with
 | true =>
  have hz : ((D : Int) == 0) = true := by rw [HDIS.out.2 hd]; rfl
  go_enter func142, ntmps142
  go_wp2_with fail
  go_region
  go_wp2
  go_ret
  refine ⟨160, #[.pointer (some ⟨w.heap.size + 3, 0, none⟩)], rfl, fun S => (HK0.out S).drew, fun k h1 h2 => ⟨fun w => rfl, fun fs w' qJ hJ' hk' => ?_⟩⟩
  have hb := HBL.out.2.2.2.drew.keeps hk' (kD.out _ (by omega))
  refine (qge (w.heap.size + 3) k had w' hb).mono ?_
  rintro e w2 ⟨rfl, qH⟩
  refine ⟨fs, ?_, List.prefix_refl _, HX.out.keeps hJ' (qH _), qH _⟩
  unfold qW
  rw [if_pos hd]
 | false =>
  have hz : ((D : Int) == 0) = false := by
   rw [beq_eq_false_iff_ne]
   intro e
   have := HDIS.out.1 (by omega)
   rw [hd] at this; cases this
  go_enter func142, ntmps142
  go_wp2_with fail
  go_region
  go_wp2
  go_ret
  refine ⟨161, #[.pointer (some ⟨w.heap.size, 0, none⟩), .pointer (some ⟨w.heap.size + 1, 0, none⟩), .pointer (some ⟨w.heap.size + 2, 0, none⟩), .pointer (some ⟨w.heap.size + 3, 0, none⟩)], rfl, fun S => (HK0.out S).drew, fun k h1 h2 => ⟨fun w => rfl, fun fs w' qJ hJ' hk' => ?_⟩⟩
  have k1 := HBL.out.1.drew.keeps hk' (kD.out _ (by omega))
  have k2 := HBL.out.2.1.drew.keeps hk' (kD.out _ (by omega))
  have k3 := HBL.out.2.2.1.drew.keeps hk' (kD.out _ (by omega))
  have k4 := HBL.out.2.2.2.drew.keeps hk' (kD.out _ (by omega))
  have kR : ((((w.alloc (.cells #[.pointer (some ⟨X, 0, none⟩)] 63)).alloc (.cells #[.int .i64 a] 3)).alloc (.cells #[.int .i64 p] 3)).alloc (.cells (cH had) 27)).drew.heap.size ≤ w'.heap.size := hk'.size
  refine (qgf HX.out a p k _ _ _ _ ta had (HL.out k h1 h2) HC.out E fs w' hJ' (fun b hb => by
   have h1 := HE.out b hb
   have h2 := (HK0.out (fun _ => False)).size
   have h3 : ((((w.alloc (.cells #[.pointer (some ⟨X, 0, none⟩)] 63)).alloc (.cells #[.int .i64 a] 3)).alloc (.cells #[.int .i64 p] 3)).alloc (.cells (cH had) 27)).drew.heap.size = ((((w.alloc (.cells #[.pointer (some ⟨X, 0, none⟩)] 63)).alloc (.cells #[.int .i64 a] 3)).alloc (.cells #[.int .i64 p] 3)).alloc (.cells (cH had) 27)).heap.size := rfl
   omega) k1 k2 k3 k4).mono ?_
  rintro e w2 ⟨gs, rfl, hp2, vV, qH⟩
  refine ⟨gs, ?_, hp2, vV, qH⟩
  unfold qW
  rw [if_neg (by rw [hd]; exact Bool.false_ne_true)]
theorem QK.mono {K : FuncId} {cap : Array Value} {k : Nat} {had : Cp} {E : Nat → Prop} {es fs : List Lit} {w w' : World} (h : QK v M2 J K cap k had E es w) (hp : es <+: fs) (hk : qb (fun b => (Mt v b ∨ M2 b) ∨ E b) w w') : QK v M2 J K cap k had E fs w' :=
 ⟨h.1, fun gs w2 hp2 vV qH => h.2 gs w2 (hp.trans hp2) vV (hk.trans qH)⟩
end
end Go.Proofs.YtjgegohidhdbpaaGreatDoor
namespace Go.Proofs.YtjgegohidhdbpaaGreatDoor
open Go.RowKit
theorem KT {w w3 : World} {o1 o2 : Obj} (h : Below ((w.alloc o1).alloc o2).heap.size ((w.alloc o1).alloc o2) w3) : Below w.heap.size w w3 :=
 (((Below.refl _ w).alloc (Nat.le_refl _) _).alloc (by simp) _).trans ⟨h.os, h.tape, h.output, h.size, fun i hi => h.block i (by rw [World.size_alloc, World.size_alloc]; omega)⟩
theorem Vs {w w3 : World} {o1 o2 : Obj} (h : Below ((w.alloc o1).alloc o2).drew.heap.size ((w.alloc o1).alloc o2).drew w3) : Below w.heap.size w w3 := KT ⟨h.os, h.tape, h.output, h.size, h.block⟩
def Qd (o : Option Nat) (w : World) (e : Ending) (w' : World) : Prop := (∃ z : Int, e = .returned (.tuple #[.int .i64 z, .bool o.isSome]) ∧ ∀ k, o = some k → z = k) ∧ Below w.heap.size w w'
theorem Xz (X p : Nat) (v : kU) (s : List UInt8) (x : Nd) (hk : x.kind = 0 ∨ x.kind = 1 ∨ x.kind = 2 ∨ x.kind = 3) (hx : x.Fits) (hp : p ≤ s.length) (hs : s.length ≤ 999999999) (had : Cp) (w : World) (h : km w X v s) :
  Calls prog 149 #[.pointer (some ⟨X, 0, none⟩), Je x, .int .i64 p, qk had] w (Qd (zE s x p had) w) := by
 have q1 := h.c1
 have lX := h.lt
 clear h
 obtain ⟨kd, w0, w1, w2, w3, xa, xb, m, M, xn⟩ := x
 simp only at hk
 unfold Je qk
 simp only
 obtain ⟨o, ho⟩ : ∃ o, o = zE s ⟨kd, w0, w1, w2, w3, xa, xb, m, M, xn⟩ p had := ⟨_, rfl⟩
 rw [← ho]
 have HO := ξ ho
 clear ho
 rcases hk with rfl | rfl | rfl | rfl
 ·have e : o = some 0 := HO.out
  subst e
  go_enter func149, ntmps149
  go_wp2
  go_ret2
  exact ⟨⟨0, rfl, fun k h => by cases h; rfl⟩, ((Below.refl _ w).alloc (Nat.le_refl _) _).alloc (by simp) _⟩
 ·have e : o = (match s[p]? with | some b => if (qS w0 w1 w2 w3) b.toNat then some 1 else none | none => none) := HO.out
  by_cases zb : p < s.length
  ·have hb : s[p]? = some s[p] := List.getElem?_eq_getElem zb
   rw [hb] at e
   simp only at e
   obtain ⟨a0, a1, a2, a3⟩ := jK hx.s0 hx.s1 hx.s2 hx.s3
   have hc := fun w => qg2 (qS w0 w1 w2 w3) s[p].toNat (by have := s[p].toNat_lt; omega) w
   unfold sv at hc
   rw [a0, a1, a2, a3] at hc
   obtain ⟨f, hf⟩ : ∃ f, f = qS w0 w1 w2 w3 s[p].toNat := ⟨_, rfl⟩
   rw [← hf] at hc e
   have hv : o.isSome = f := by rw [e]; cases f <;> rfl
   have hz : ∀ k, o = some k → (1 : Int) = k := fun k h => by
    rw [e] at h
    split at h
    ·cases h; rfl
    ·cases h
   have HC := ξ hc; have HV := ξ hv; have HZ := ξ hz
   clear e hc hv hz a0 a1 a2 a3 hf HO
   have q1' := qa (.cells (nA 1 w0 w1 w2 w3 xa xb m M xn) 57) q1
   have q1'' := qa (.cells (cH had) 27) q1'
   go_enter func149, ntmps149
   go_wp2_with fail
   go_region_with (go_at_call 166; refine (HC.out _).mono ?_; rintro e w3 ⟨rfl, qQ⟩)
   all_goals
    go_wp2
    go_ret2
    refine ⟨⟨1, by rw [HV.out]; rfl, HZ.out⟩, ?_⟩
    first | exact KT qQ | exact Vs qQ | exact (KT qQ).drew | exact (Vs qQ).drew
  ·have hb : s[p]? = none := List.getElem?_eq_none (by omega)
   rw [hb] at e
   subst e
   have q1' := qa (.cells (nA 1 w0 w1 w2 w3 xa xb m M xn) 57) q1
   have q1'' := qa (.cells (cH had) 27) q1'
   go_enter func149, ntmps149
   go_wp2_with fail
   go_region
   all_goals
    go_wp2
    go_ret2
    exact ⟨⟨1, rfl, fun k h => by cases h⟩, (((Below.refl _ w).alloc (Nat.le_refl _) _).alloc (by simp) _).drew⟩
 ·have e : o = if p = 0 then some 0 else none := HO.out
  have hv : ((p : Int) == 0) = o.isSome := by
   rw [e]
   by_cases h : p = 0
   ·subst h; rfl
   ·rw [if_neg h]; simp [h]
  have hz : ∀ k, o = some k → (0 : Int) = k := fun k h => by
   rw [e] at h
   split at h
   ·cases h; rfl
   ·cases h
  have HV := ξ hv; have HZ := ξ hz
  clear e hv hz
  go_enter func149, ntmps149
  go_wp2
  go_ret2
  exact ⟨⟨0, by rw [HV.out]; rfl, HZ.out⟩, ((Below.refl _ w).alloc (Nat.le_refl _) _).alloc (by simp) _⟩
 ·have e : o = if p = s.length then some 0 else none := HO.out
  have hv : ((p : Int) == (s.length : Int)) = o.isSome := by
   rw [e]
   by_cases h : p = s.length
   ·rw [if_pos h, h]; simp
   ·rw [if_neg h]; exact beq_eq_false_iff_ne.2 (by omega)
  have hz : ∀ k, o = some k → (0 : Int) = k := fun k h => by
   rw [e] at h
   split at h
   ·cases h; rfl
   ·cases h
  have HV := ξ hv; have HZ := ξ hz
  clear e hv hz
  have q1' := qa (.cells (nA 3 w0 w1 w2 w3 xa xb m M xn) 57) q1
  have q1'' := qa (.cells (cH had) 27) q1'
  go_enter func149, ntmps149
  go_wp2_with fail
  go_region
  all_goals
   go_wp2
   go_ret2
   exact ⟨⟨0, by rw [HV.out]; rfl, HZ.out⟩, (((Below.refl _ w).alloc (Nat.le_refl _) _).alloc (by simp) _).drew⟩
end Go.Proofs.YtjgegohidhdbpaaGreatDoor
