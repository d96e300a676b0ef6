/- The document's own tables in memory: rows of bools, and rows of those. -/
import Derived.Test.YtjgegohidhdbpaaGreatDoorJMaJ
import Derived.Test.YtjgegohidhdbpaaGreatDoorJMbW
import Derived.Test.YtjgegohidhdbpaaGreatDoorJSetJ
open Go.Proofs.Tryz
set_option linter.unusedVariables false
set_option linter.unusedSimpArgs false
set_option maxRecDepth 100000
set_option maxHeartbeats 40000000
namespace Go.Proofs.YtjgegohidhdbpaaGreatDoor
open Go.RowKit
theorem qiV : (Tryz.prog.info? 4).map (fun i => (i.zero, i.size, i.bytes)) = some (some (.bool false), 1, 1) := by kernel_rfl
theorem qiW : (Tryz.prog.info? 145).map (fun i => (i.zero, i.size, i.bytes)) = some (some (.slice none 0 0), 1, 24) := by kernel_rfl
def zF (b n : Nat) : Value := .slice (some ⟨b, 0, none⟩) n n
abbrev bR (f : Nat → Bool) : Nat → Value := fun p => .bool (f p)
theorem WE (n : Nat) (hn : n ≤ 1000) (w : World) : (Instr.makeSlice 145 (.int .i64 n) (.int .i64 n)).run prog w = .ok (.slice (some ⟨w.heap.size, 0, none⟩) n n) (w.alloc (.cells ((List.range n).map (bR fun _ => false)).toArray 4)) := by
 obtain ⟨i, hi, QX, kF, vv⟩ := info_parts qiV
 have h := run_makeSlice (P := prog) w 145 4 i (.bool false) underlying145 hi QX .i64 .i64 n n (by omega) (by omega) (by rw [kF]; omega) (by rw [vv]; omega) (by omega)
 rw [h]
 have e : madeCells (Value.bool false).cells ((n : Int).toNat * i.size) = ((List.range n).map (bR fun _ => false)).toArray := by
  rw [kF]
  apply Array.ext
  ·simp [madeCells, Value.cells]
  ·intro i h1 h2
   simp [madeCells, Value.cells, Nat.mod_one]
 rw [e]
 simp
theorem qai (n : Nat) (hn : n ≤ 1000) (w : World) : (Instr.makeSlice 144 (.int .i64 n) (.int .i64 n)).run prog w = .ok (.slice (some ⟨w.heap.size, 0, none⟩) n n) (w.alloc (.cells ((List.range n).map fun _ => Value.slice none 0 0).toArray 145)) := by
 obtain ⟨i, hi, QX, kF, vv⟩ := info_parts qiW
 have h := run_makeSlice (P := prog) w 144 145 i (.slice none 0 0) underlying144 hi QX .i64 .i64 n n (by omega) (by omega) (by rw [kF]; omega) (by rw [vv]; omega) (by omega)
 rw [h]
 have e : madeCells (Value.slice none 0 0).cells ((n : Int).toNat * i.size) = ((List.range n).map fun _ => Value.slice none 0 0).toArray := by
  rw [kF]
  apply Array.ext
  ·simp [madeCells, Value.cells]
  ·intro i h1 h2
   simp [madeCells, Value.cells, Nat.mod_one]
 rw [e]
 simp
structure yT (w : World) (b m n : Nat) (R : Nat → Nat) (F : Nat → Nat → Bool) : Prop where
 top : qm w b m 145 (fun c => zF (R c) n)
 row : ∀ c, c < m → qm w (R c) n 4 (bR (F c))
theorem yT.below {w w' : World} {b m n : Nat} {R : Nat → Nat} {F : Nat → Nat → Bool} (h : yT w b m n R F) (hB : Below w.heap.size w w') : yT w' b m n R F :=
 ⟨h.top.below hB h.top.lt, fun c hc => (h.row c hc).below hB (h.row c hc).lt⟩
structure Part (w : World) (B b m n c0 : Nat) (R : Nat → Nat) (F : Nat → Nat → Bool) : Prop where
 top : qm w b m 145 (fun c => if c0 ≤ c then zF (R c) n else .slice none 0 0)
 row : ∀ c, c0 ≤ c → c < m → qm w (R c) n 4 (bR (F c))
 inj : ∀ c d, c0 ≤ c → c < m → c0 ≤ d → d < m → R c = R d → c = d
 ne : ∀ c, c0 ≤ c → c < m → R c ≠ b ∧ B ≤ R c
 own : B ≤ b
section
variable {w : World} {B b m n c0 : Nat} {R : Nat → Nat} {F : Nat → Nat → Bool}
theorem Part.grid (h : Part w B b m n 0 R F) : yT w b m n R F := ⟨by
 have := h.top
 simpa using this, fun c hc => h.row c (Nat.zero_le _) hc⟩
theorem Part.more (h : Part w B b m n (c0 + 1) R F) (hc : c0 < m) (hB : B ≤ w.heap.size) (A : Array Value) (hA : A = ((List.range n).map (bR fun _ => false)).toArray) : Part ((w.setCell ⟨b, c0, none⟩ (zF w.heap.size n)).alloc (.cells A 4)) B b m n c0 (fun c => if c = c0 then w.heap.size else R c) (fun c p => if c = c0 then false else F c p) := by
 subst hA
 have zb : ∀ c, c0 + 1 ≤ c → c < m → R c < w.heap.size := fun c h1 h2 => (h.row c h1 h2).lt
 have hbl := h.top.lt
 have kR : (w.setCell ⟨b, c0, none⟩ (zF w.heap.size n)).heap.size = w.heap.size := World.size_setCell _ _ _
 have hA : ∀ o : Obj, Below w.heap.size (w.setCell ⟨b, c0, none⟩ (zF w.heap.size n)) ((w.setCell ⟨b, c0, none⟩ (zF w.heap.size n)).alloc o) := fun o => (Below.refl _ _).alloc (by omega) o
 refine ⟨?_, fun c h1 h2 => ?_, fun c d h1 h2 h3 h4 e => ?_, fun c h1 h2 => ?_, h.own⟩
 ·have ht := (h.top.set c0 (zF w.heap.size n)).below (hA (.cells ((List.range n).map (bR fun _ => false)).toArray 4)) hbl
  have e : (fun i => if i = c0 then zF w.heap.size n else (fun c => if c0 + 1 ≤ c then zF (R c) n else Value.slice none 0 0) i) = (fun c => if c0 ≤ c then zF ((fun c => if c = c0 then w.heap.size else R c) c) n else Value.slice none 0 0) := by
   funext c
   by_cases q : c = c0
   ·subst q; simp
   ·by_cases q1 : c0 + 1 ≤ c
    ·have : c0 ≤ c := by omega
     simp [q, q1, this]
    ·have : ¬ c0 ≤ c := by omega
     simp [q, q1, this]
  rw [e] at ht
  exact ht
 ·by_cases q : c = c0
  ·subst q
   have hn := qm.new (w.setCell ⟨b, c, none⟩ (zF w.heap.size n)) n 4 (bR fun _ => false)
   rw [kR] at hn
   simpa [bR] using hn
  ·have h1' : c0 + 1 ≤ c := by omega
   have hr := ((h.row c h1' h2).other (p := ⟨b, c0, none⟩) (h.ne c h1' h2).1 (zF w.heap.size n)).below (hA (.cells ((List.range n).map (bR fun _ => false)).toArray 4)) (zb c h1' h2)
   simpa [bR, q] using hr
 ·by_cases q : c = c0
  ·by_cases q2 : d = c0
   ·omega
   ·have := zb d (by omega) h4
    simp only [q, q2, if_true, if_false] at e
    omega
  ·by_cases q2 : d = c0
   ·have := zb c (by omega) h2
    simp only [q, q2, if_true, if_false] at e
    omega
   ·simp only [q, q2, if_false] at e
    exact h.inj c d (by omega) h2 (by omega) h4 e
 ·by_cases q : c = c0
  ·simp only [q, if_true]; omega
  ·simp only [q, if_false]; exact h.ne c (by omega) h2
theorem Part.set (h : Part w B b m n c0 R F) (c p : Nat) (h1 : c0 ≤ c) (h2 : c < m) (x : Bool) : Part (w.setCell ⟨R c, p, none⟩ (.bool x)) B b m n c0 R (fun i k => if i = c ∧ k = p then x else F i k) := by
 refine ⟨h.top.other (by show b ≠ R c; have := (h.ne c h1 h2).1; omega) _, fun d h3 h4 => ?_, h.inj, h.ne, h.own⟩
 by_cases q : d = c
 ·subst q
  have := (h.row d h3 h4).set p (.bool x)
  have e : (fun i => if i = p then Value.bool x else bR (F d) i) = bR (fun k => if d = d ∧ k = p then x else F d k) := by
   funext k
   by_cases q : k = p
   ·simp [q, bR]
   ·simp [q, bR]
  rw [e] at this
  exact this
 ·have := (h.row d h3 h4).other (p := ⟨R c, p, none⟩) (fun e => q (h.inj d c h3 h4 h1 h2 e)) (.bool x)
  simpa [bR, q] using this
theorem Part.drew (h : Part w B b m n c0 R F) : Part w.drew B b m n c0 R F := ⟨h.top.drew, fun c h1 h2 => (h.row c h1 h2).drew, h.inj, h.ne, h.own⟩
end
theorem qiv : (Tryz.prog.info? 73).map (fun i => (i.zero, i.size, i.bytes)) = some (some (.agg #[.int .i64 0, .int .u64 0, .int .u64 0, .int .u64 0, .int .u64 0, .int .i64 0, .int .i64 0, .int .i64 0, .int .i64 0, .int .i64 0]), 10, 80) := by kernel_rfl
def RRow (w : World) (B : Nat) (v : Value) (n : Nat) (xs : List Nd) : Prop := w.ownsRow B 73 10 v n (flat xs)
theorem qa3 (xs : List Nd) (k : Nat) (x : Nd) (h : xs[k]? = some x) : flat (xs.take (k + 1)) = flat (xs.take k) ++ x.cells.toList := by
 have hk := (List.getElem?_eq_some_iff.1 h)
 obtain ⟨hk, e⟩ := hk
 rw [List.take_succ_eq_append_getElem hk, e]
 simp [flat]
open Go.Maps Go.WideMaps
theorem qb.trans2 {S S' : Nat → Prop} {a b c : World} (h : qb S a b) (k : qb S' b c) (hs : ∀ i, i < a.heap.size → S' i → S i) : qb S a c :=
 ⟨k.os.trans h.os, k.tape.trans h.tape, k.output.trans h.output, Nat.le_trans h.size k.size, fun i hi q => (k.block i (Nat.lt_of_lt_of_le hi h.size) (fun r => q (hs i hi r))).trans (h.block i hi q)⟩
section
variable (X : Nat) (v : kU) (s : List UInt8) (xs : List Nd) (B : Nat) (c1 : Lit → Nat) (n1 : Nat) (P1 : Lit → Prop) (c2 : Lit → Nat) (n2 : Nat)
structure JX (M2 : Nat → Prop) (J : (Nat → Prop) → List Lit → World → Prop) : Prop where
 iv : ∀ {E es w}, J E es w → Iv X v s xs B c1 n1 P1 c2 n2 (fun b => E b ∨ M2 b) es w
 mono : ∀ {E E' es w}, J E es w → (∀ b, E' b → E b) → J E' es w
 fresh : ∀ {E es w}, J E es w → J (fun b => E b ∨ w.heap.size ≤ b) es w
 keeps : ∀ {E es w w'}, J E es w → qb E w w' → J E es w'
 own : ∀ {E es fs w w'}, J E es w → Iv X v s xs B c1 n1 P1 c2 n2 (fun b => E b ∨ M2 b) fs w' → qb (Mt v) w w' → J E fs w'
 lt : ∀ {E es w}, J E es w → ∀ b, M2 b → b < w.heap.size ∧ ∀ n f, ¬ qI w b (n + 1) f
def zz (t : T) (c : Nat) : Prop := match t with
 | .times m M _ => if M = -1 then (c : Int) ≤ m else (c : Int) ≤ M
 | _ => True
section
variable (M2 : Nat → Prop) (J : (Nat → Prop) → List Lit → World → Prop)
def jI (n : Nat) (t : T) (p : Nat) : Prop := ∀ (c : Nat) (had : Cp) (E : Nat → Prop) (es : List Lit) (w : World), c ≤ B → zz t c → qo s.length had → J E es w → (∀ b, E b → b < w.heap.size) →
 Calls prog 112 #[.pointer (some ⟨X, 0, none⟩), .int .i64 n, .int .i64 p, .int .i64 c, qk had] w fun e w' => ∃ (b : Nat) (fs : List Lit), e = .returned (PV (s.length / 64 + 1) b) ∧ qI w' b (s.length / 64 + 1) (fun j => (qd s t).ends p c had j) ∧ ¬ E b ∧ b ≠ 0 ∧ ¬ M2 b ∧ ¬ Mt v b ∧ es <+: fs ∧ J E fs w' ∧ qb (fun b => Mt v b ∨ M2 b) w w'
def zA (fn : Nat) (n : Nat) (t : T) (p : Nat) : Prop := ∀ (c : Nat) (had : Cp) (E : Nat → Prop) (es : List Lit) (w : World) (fb : Nat) (f : Nat → Bool), c ≤ B → zz t c → qo s.length had → J E es w → (∀ b, E b → b < w.heap.size) → E fb → qI w fb (s.length / 64 + 1) f →
 Calls prog fn #[.pointer (some ⟨X, 0, none⟩), PV (s.length / 64 + 1) fb, .int .i64 n, .int .i64 p, .int .i64 c, qk had] w fun e w' => ∃ fs : List Lit, e = .returned (.tuple #[]) ∧ qI w' fb (s.length / 64 + 1) (fun j => f j || (qd s t).ends p c had j) ∧ es <+: fs ∧ J E fs w' ∧ qb (fun b => (Mt v b ∨ M2 b) ∨ b = fb) w w'
end
end
section
variable {X : Nat} {v : kU} {s : List UInt8} {xs : List Nd} {B : Nat} {c1 : Lit → Nat} {n1 : Nat} {P1 : Lit → Prop} {c2 : Lit → Nat} {n2 : Nat} {M2 : Nat → Prop} {J : (Nat → Prop) → List Lit → World → Prop}
theorem qdA (jx : JX X v s xs B c1 n1 P1 c2 n2 M2 J) (fx : Fx v s xs B P1) (n p : Nat) (t : T) (hn : n < v.n) (hp : p ≤ s.length) (ht : zT (fun i => xs[i]?) t n) (hir : vN t = true) (hR : zA X v s B M2 J 132 n t p) : jI X v s B M2 J n t p := by
 intro c had E es w JR kC qB hJ hE
 have jp := fx.sl
 have iv := jx.iv hJ
 have zO : ∀ S, qb S w (w.alloc (.cells (cH had) 27)) := fun S => (qb.refl S w).alloc _
 have iv1 := iv.keeps (zO _)
 have kO := Q8 X n v s xs t ht fx.len fx.n2 (w.alloc (.cells (cH had) 27)) iv1.tr iv1.nodes
 rw [hir] at kO
 have QI := ξ kO
 have HB := qc w had
 have HJ := ξ hJ
 have HR := ξ hR
 have HX := ξ jx
 have HE := ξ hE
 have HB := ξ HB
 have HC := ξ (ζ JR (ζ kC qB))
 have HIV := ξ iv
 have lw := iv.lts.2.2.2.2.2.2
 clear kO hJ hR iv iv1 hE jx kC qB
 unfold qk
 go_enter func112, ntmps112
 go_wp2_with fail
 refine QI.out.mono ?_
 rintro e w2 ⟨rfl, zj⟩
 have qH : ∀ S, qb S w w2 := fun S => (zO S).trans (qb.of_below zj)
 have x1 := (HIV.out.keeps (qH _)).tr.c1
 have jD := HB.out.below zj HB.out.lt
 have yg := ξ qH
 have l2 := (qH (fun _ => False)).size
 clear zO qH zj QI
 go_wp2_with fail
 refine (QJ s.length (by omega) _).mono ?_
 rintro e w3 ⟨rfl, YN⟩
 have vO := jD.alloc (.cells (JS (fun _ => false) (s.length / 64 + 1)) 53)
 rw [← YN] at vO
 have k_ := qc.ten (w := w3) (b := w.heap.size) (had := had) vO
 have qh := HR.out c had (fun b => E b ∨ b = w2.heap.size) es w3 w2.heap.size (fun _ => false) HC.out.1 HC.out.2.1 HC.out.2.2
  (by rw [YN]; exact HX.out.mono (HX.out.keeps (HX.out.fresh HJ.out) ((yg.out _).alloc _)) (fun b hb => hb.imp id (fun e => by have := (yg.out (fun _ => False)).size; omega)))
  (fun b hb => by
   rw [YN, World.size_alloc]
   rcases hb with hb | rfl
   ·have := HE.out b hb
    have := (yg.out (fun _ => False)).size
    omega
   ·omega) (.inr rfl) (by rw [YN]; exact qI.new _ _ _)
 unfold PV qk at qh
 have qp := ξ qh
 have Xd := ξ YN
 clear qh YN x1 jD vO
 go_wp2_with fail
 refine qp.out.mono ?_
 rintro e w4 ⟨fs, rfl, qv, qJ, KN, vn⟩
 have l3 : w3.heap.size = w2.heap.size + 1 := by rw [Xd.out, World.size_alloc]
 go_wp2
 go_ret
 refine ⟨w2.heap.size, fs, rfl, by simpa using qv, fun e => ?_, by omega, fun e => ?_, fun e => ?_, qJ, HX.out.mono KN (fun b hb => .inl hb), ?_⟩
 ·have := HE.out _ e; omega
 ·have := (HX.out.lt HJ.out _ e).1; omega
 ·have l := HIV.out.lts
  rcases e with e | e | e <;> omega
 ·have zl : qb (fun b => Mt v b ∨ M2 b) w w3 := by rw [Xd.out]; exact (yg.out _).alloc _
  exact zl.trans2 vn (fun i hi e => e.elim id (fun e => by omega))
end
theorem WG : Tryz.prog.underlying 92 = some (.map 137 77) := underlying92
section
variable {X : Nat} {v : kU} {s : List UInt8} {xs : List Nd} {B : Nat} {c1 : Lit → Nat} {n1 : Nat} {P1 : Lit → Prop} {c2 : Lit → Nat} {n2 : Nat} {M2 : Nat → Prop} {J : (Nat → Prop) → List Lit → World → Prop}
theorem qdC (jx : JX X v s xs B c1 n1 P1 c2 n2 M2 J) (fx : Fx v s xs B P1) (n p : Nat) (t : T) (hn : n < v.n) (hp : p ≤ s.length) (ht : zT (fun i => xs[i]?) t n) (hir : vN t = false) (hR : zA X v s B M2 J 132 n t p) : jI X v s B M2 J n t p := by
 intro c had E es w JR kC qB hJ hE
 have jp := fx.sl
 have XJ := fx.n2
 have qQ := fx.B3
 have iv := jx.iv hJ
 have zO : ∀ S, qb S w (w.alloc (.cells (cH had) 27)) := fun S => (qb.refl S w).alloc _
 have iv1 := iv.keeps (zO _)
 have kO := Q8 X n v s xs t ht fx.len fx.n2 (w.alloc (.cells (cH had) 27)) iv1.tr iv1.nodes
 rw [hir] at kO
 have QI := ξ kO
 have HB := ξ (qc w had)
 have HJ := ξ hJ
 have HR := ξ hR
 have HX := ξ jx
 have HE := ξ hE
 have HF := ξ fx
 have HC := ξ (ζ JR (ζ kC qB))
 have HIV := ξ iv
 obtain ⟨lX, llb, lrb, lbn, lbr, lbl, lw⟩ := iv.lts
 have ZD := ξ (fun b hb => (jx.lt hJ b hb).1)
 have hmx := iv.nums.max
 have emx : maxLen = 9223372036854775807 := by decide
 rw [emx] at hmx
 clear kO hJ hR iv iv1 hE jx kC fx emx
 unfold qk
 go_enter func112, ntmps112
 go_wp2_with fail
 refine QI.out.mono ?_
 rintro e w2 ⟨rfl, zj⟩
 have qH : ∀ S, qb S w w2 := fun S => (zO S).trans (qb.of_below zj)
 have jD := HB.out.below zj HB.out.lt
 have lsz2 : w.heap.size < w2.heap.size := by have := jD.lt; omega
 have yg := ξ qH
 have iv2 := HIV.out.keeps (qH _)
 have k_ := qc.ten (w := w2) (b := w.heap.size) (had := had) jD
 have Kp := Yb HF.out n p c t had hn ht qB w2 iv2 (fun b hb => by
  rcases hb with hb | hb
  ·have := HE.out b hb; omega
  ·have := ZD.out b hb; omega) iv2.out.2.2.2.1
 unfold qk at Kp
 have VP := ξ Kp
 have jk := ξ jD
 clear zO qH zj QI Kp iv2 jD
 go_wp2_with fail
 refine VP.out.mono ?_
 rintro e w3 ⟨fs, q, rfl, qJ, qdD, hq, iv3, zl⟩
 have lsz3 := zl.size
 have vw : J E fs w3 := HX.out.own (HX.out.keeps HJ.out (yg.out _)) iv3 (zl.mono (fun i _ e => .inl e))
 have vO := jk.out.keeps zl (by omega)
 have kM := ξ vw
 have Zp := ξ zl
 have HIV3 := ξ iv3
 have HPRE := ξ qJ
 have Zt := ξ vO
 have HNOF := ξ qdD
 -- the look
 have ks : ∀ S, qb S w3 (w3.alloc (.cells #[.int .i64 n, .int .i64 p, .int .i64 c, .int .i64 q] 137)).drew := fun S => ((qb.refl S w3).alloc _).drew
 have iv4 := iv3.keeps (ks _)
 obtain ⟨L, hL, hL2⟩ := iv4.reach
 have vD := yh (a := n) (b := p) (c := c) (d := q) (zH (by omega)) (zH (by omega)) (zH (by omega)) (zH (by omega))
 obtain ⟨val, Qk, Ku⟩ := hL.look_ok jQ WG (z := .slice none 0 0) (by intro w; kernel_rfl) vD
 have x4 := iv4.tr.c4
 have x1 := iv4.tr.c1
 have Ql := (Four.new w3 137 (.int .i64 n) (.int .i64 p) (.int .i64 c) (.int .i64 q)).drew
 have f0 := Ql.c0; have f1 := Ql.c1; have f2 := Ql.c2; have f3 := Ql.c3
 have qlj := ξ Ql
 have HKD := ξ ks
 have qbg := ξ vD
 have HL2 := ξ (ζ hL2 Ku)
 have qbh := ξ iv4
 clear zl vw iv3 iv4 vO qJ qdD hL hL2 Ku Ql ks vD VP k_
 cases hLk : L (Jm n p c q) with
 | some u =>
  rw [hLk] at Qk
  obtain ⟨b, t', qw, rfl, Ja, Vw, hs', kZ, qbi, qv⟩ := HL2.out.1 n p c q u ⟨hn, hp, JR, hq⟩ hLk
  obtain rfl := HL2.out.2 _ hLk
  obtain rfl := va t' t n hs' ht
  have qbj := (HF.out.ok n t' hn ht).2.1.ask p c had qw qB kZ hp (WH (HF.out.ok n t' hn ht).2.1 qB kZ (by omega) HNOF.out qbi)
  rw [← qbj] at qv
  have vP := ξ qv
  unfold PV at Qk
  clear qv qbj hLk
  go_wp2_with fail
  go_region
  go_wp2
  go_ret
  obtain ⟨L6, h6, _⟩ := qbh.out.reach
  obtain ⟨L7, h7, _⟩ := qbh.out.left
  refine ⟨b, fs, rfl, vP.out, fun e => Ja (.inl e), Vw, fun e => Ja (.inr e), fun e => ?_, HPRE.out, HX.out.keeps kM.out (HKD.out _), ?_⟩
  ·rcases e with e | e | e
   ·exact (qbh.out.apart HF.out qbh.out.nums).2.2.2.2 _ _ _ vP.out e
   ·exact (qbh.out.apart HF.out h6).2.2.2.2 _ _ _ vP.out e
   ·exact (qbh.out.apart HF.out h7).2.2.2.2 _ _ _ vP.out e
  ·exact ((yg.out _).trans (Zp.out.mono (fun i _ e => .inl (.inl e)))).trans (HKD.out _)
 | none =>
  rw [hLk] at Qk
  clear hLk
  have hnp := QJ s.length (by omega) ((w3.alloc (.cells #[.int .i64 n, .int .i64 p, .int .i64 c, .int .i64 q] 137)).drew)
  have hz : ((w3.alloc (.cells #[.int .i64 n, .int .i64 p, .int .i64 c, .int .i64 q] 137)).drew).heap.size = w3.heap.size + 1 := by show (w3.alloc _).heap.size = _; rw [World.size_alloc]
  rw [hz] at hnp
  have HNP := ξ hnp
  have U2 : ∀ S, qb S w3 (((w3.alloc (.cells #[.int .i64 n, .int .i64 p, .int .i64 c, .int .i64 q] 137)).drew).alloc (.cells (JS (fun _ => false) (s.length / 64 + 1)) 53)) := fun S => (HKD.out S).alloc _
  have Y5 := ((Zt.out.alloc (.cells #[.int .i64 n, .int .i64 p, .int .i64 c, .int .i64 q] 137)).drew).alloc (.cells (JS (fun _ => false) (s.length / 64 + 1)) 53)
  have hf5 := qlj.out.alloc (.cells (JS (fun _ => false) (s.length / 64 + 1)) 53)
  have hp5 := qI.new ((w3.alloc (.cells #[.int .i64 n, .int .i64 p, .int .i64 c, .int .i64 q] 137)).drew) (s.length / 64 + 1) (fun _ => false)
  rw [hz] at hp5
  have qiY := ξ U2
  have Y8 := ξ Y5
  have HF5 := ξ hf5
  have HP5 := ξ hp5
  have qf8 : (((w3.alloc (.cells #[.int .i64 n, .int .i64 p, .int .i64 c, .int .i64 q] 137)).drew).alloc (.cells (JS (fun _ => false) (s.length / 64 + 1)) 53)).heap.size = w3.heap.size + 2 := by rw [World.size_alloc, hz]
  clear hnp U2 Y5 hf5 hp5 hz
  go_wp2_with fail
  go_region
  go_wp2_with fail
  refine HNP.out.mono ?_
  rintro e w5 ⟨rfl, hw5⟩
  rw [← hw5] at qf8
  have Y5 := Y8.out
  have hf5 := HF5.out
  have hp5 := HP5.out
  have U2 := qiY.out
  rw [← hw5] at Y5 hf5 hp5
  rw [← hw5] at U2
  have k_ := qc.ten (w := w5) (b := w.heap.size) (had := had) Y5
  have qh := HR.out c had (fun b => E b ∨ b = w3.heap.size + 1) fs w5 (w3.heap.size + 1) (fun _ => false) HC.out.1 HC.out.2.1 HC.out.2.2
   (HX.out.mono (HX.out.keeps (HX.out.fresh kM.out) (U2 _)) (fun b hb => hb.imp id (fun e => by omega)))
   (fun b hb => by
    rcases hb with hb | rfl
    ·have := HE.out b hb
     omega
    ·omega) (.inr rfl) hp5
  unfold PV qk at qh
  have qp := ξ qh
  have HF5 := ξ hf5
  have qiY := ξ U2
  clear qh Y5 hf5 hp5 U2 x1 x4 Qk HNP Y8 HP5 hw5 f0 f1 f2 f3
  go_wp2_with fail
  refine qp.out.mono ?_
  rintro e w6 ⟨gs, rfl, qv, K1, K2, Q9⟩
  clear qp k_
  have iv6 := (HX.out.iv K2).mono (E' := fun b => E b ∨ M2 b) (fun b hb => hb.elim (fun e => .inl (.inl e)) .inr)
  have iv6d := iv6.keeps ((qb.refl _ w6).drew)
  obtain ⟨L6, hL6, hL62⟩ := iv6d.reach
  obtain ⟨w7, hup, hm7, QD⟩ := hL6.update jQ WG (val := .slice (some ⟨w3.heap.size + 1, 0, none⟩) (s.length / 64 + 1) (s.length / 64 + 1)) qbg.out ⟨n, p, c, q, hn, hp, JR, hq, rfl⟩
  have hk7 : qb (fun b => b = v.br) w6.drew w7 := (qb.refl _ _).grown QD (fun k h => by cases h; rfl)
  have WI : qI w6 (w3.heap.size + 1) (s.length / 64 + 1) (fun j => (qd s t).ends p c had j) := by simpa using qv
  have qdF := WI.drew.keeps hk7 (by omega)
  have hnE : ¬ (E (w3.heap.size + 1) ∨ M2 (w3.heap.size + 1)) := fun e => by
   rcases e with e | e
   ·have := HE.out _ e; omega
   ·have := ZD.out _ e; omega
  have iv7 := iv6d.upReach HF.out hL62 hk7 hm7 (fun l hl => if_neg hl) (fun u hu => by rw [if_pos rfl] at hu; exact (Option.some.inj hu).symm) ⟨hn, hp, JR, hq⟩ hnE (by omega) ht HC.out.2.2 (Jn K1 HNOF.out) qdF
  have hJ7 : J E gs w7 := HX.out.own (HX.out.mono (HX.out.keeps K2 (qb.refl _ w6).drew) (fun b hb => .inl hb)) iv7 (hk7.mono (fun i _ e => .inr (.inl e)))
  have hf6 : Four w6 w3.heap.size 137 (.int .i64 n) (.int .i64 p) (.int .i64 c) (.int .i64 q) := ⟨(Q9.block _ HF5.out.lt (fun e => by
   rcases e with (e | e) | e
   ·rcases e with e | e | e <;> omega
   ·have := ZD.out _ e; omega
   ·omega)).trans HF5.out.heap⟩
  have x46 := iv6.tr.c4
  have f0 := hf6.c0; have f1 := hf6.c1; have f2 := hf6.c2; have f3 := hf6.c3
  have qE := ξ (ζ qdF (ζ hJ7 (ζ Q9 hk7)))
  have qlm := ξ K1
  have HNE := ξ hnE
  clear iv6 iv6d hL6 hL62 hm7 QD hk7 WI qdF iv7 hJ7 hf6 qv Q9 K1 K2 hnE
  go_wp2_with fail
  go_region
  go_wp2
  go_ret
  refine ⟨w3.heap.size + 1, gs, rfl, qE.out.1, fun e => HNE.out (.inl e), by omega, fun e => HNE.out (.inr e), fun e => ?_, HPRE.out.trans qlm.out, qE.out.2.1, ?_⟩
  ·rcases e with e | e | e <;> omega
  ·have h3 : qb (fun b => Mt v b ∨ M2 b) w w3 := (yg.out _).trans (Zp.out.mono (fun i _ e => .inl (.inl e)))
   exact (((h3.trans (qiY.out _)).trans2 qE.out.2.2.1 (fun i hi e => e.elim id (fun e => by omega))).drew).trans (qE.out.2.2.2.mono (fun i _ e => .inl (.inr (.inl e))))
end
section
variable {X : Nat} {v : kU} {s : List UInt8} {xs : List Nd} {B : Nat} {c1 : Lit → Nat} {n1 : Nat} {P1 : Lit → Prop} {c2 : Lit → Nat} {n2 : Nat} {M2 : Nat → Prop} {J : (Nat → Prop) → List Lit → World → Prop}
theorem Z4 (jx : JX X v s xs B c1 n1 P1 c2 n2 M2 J) (fx : Fx v s xs B P1) (n p : Nat) (t : T) (hn : n < v.n) (hp : p ≤ s.length) (ht : zT (fun i => xs[i]?) t n) (hR : zA X v s B M2 J 132 n t p) : jI X v s B M2 J n t p := by
 cases h : vN t with
 | true => exact qdA jx fx n p t hn hp ht h hR
 | false => exact qdC jx fx n p t hn hp ht h hR
theorem qgb (jx : JX X v s xs B c1 n1 P1 c2 n2 M2 J) (fx : Fx v s xs B P1) (n p : Nat) (t : T) (hn : n < v.n) (hp : p ≤ s.length) (ht : zT (fun i => xs[i]?) t n) (hir : vN t = true) (hR : zA X v s B M2 J 132 n t p) : zA X v s B M2 J 113 n t p := by
 intro c had E es w fb f JR kC qB hJ hE zJ qv
 have jp := fx.sl
 have iv := jx.iv hJ
 have zO : ∀ S, qb S w (w.alloc (.cells (cH had) 27)) := fun S => (qb.refl S w).alloc _
 have iv1 := iv.keeps (zO _)
 have kO := Q8 X n v s xs t ht fx.len fx.n2 (w.alloc (.cells (cH had) 27)) iv1.tr iv1.nodes
 rw [hir] at kO
 have QI := ξ kO
 have HB := ξ (qc w had)
 have HJ := ξ hJ
 have HR := ξ hR
 have HX := ξ jx
 have HE := ξ hE
 have vP := ξ qv
 have HC := ξ (ζ JR (ζ kC qB))
 have lfb := qv.lt
 have ZO : ¬ Mt v fb ∧ ¬ M2 fb := ⟨fun e => by
  obtain ⟨o1, o2, o3, o4, o5, o6, o7⟩ := iv.out
  rcases e with e | e | e
  ·subst e; exact o4 (.inl zJ)
  ·subst e; exact o5 (.inl zJ)
  ·subst e; exact o6 (.inl zJ), fun e => (jx.lt hJ fb e).2 _ _ qv⟩
 have HNM := ξ ZO
 clear kO hJ hR iv iv1 hE jx kC qB qv ZO
 unfold qk PV
 go_enter func113, ntmps113
 go_wp2_with fail
 refine QI.out.mono ?_
 rintro e w2 ⟨rfl, zj⟩
 have qH : ∀ S, qb S w w2 := fun S => (zO S).trans (qb.of_below zj)
 have jD := HB.out.below zj HB.out.lt
 have l2 := (qH (fun _ => False)).size
 have zk := vP.out.keeps (qH (fun _ => False)) id
 have k_ := qc.ten (w := w2) (b := w.heap.size) (had := had) jD
 have qh := HR.out c had E es w2 fb f HC.out.1 HC.out.2.1 HC.out.2.2 (HX.out.keeps HJ.out (qH _)) (fun b hb => by have := HE.out b hb; omega) zJ zk
 unfold PV qk at qh
 have qp := ξ qh
 have yg := ξ qH
 clear qh zO qH zj QI jD zk
 go_wp2_with fail
 refine qp.out.mono ?_
 rintro e w3 ⟨fs, rfl, jz, qJ, vw, zl⟩
 go_wp2
 first | go_end0 | refine bodyPost_ret (results_none rfl _ _ _) rfl ?_
 exact ⟨fs, rfl, jz, qJ, vw, (yg.out _).trans zl⟩
theorem qgc (jx : JX X v s xs B c1 n1 P1 c2 n2 M2 J) (fx : Fx v s xs B P1) (n p : Nat) (t : T) (hn : n < v.n) (hp : p ≤ s.length) (ht : zT (fun i => xs[i]?) t n) (hir : vN t = false) (hR : jI X v s B M2 J n t p) : zA X v s B M2 J 113 n t p := by
 intro c had E es w fb f JR kC qB hJ hE zJ qv
 have jp := fx.sl
 have iv := jx.iv hJ
 have zO : ∀ S, qb S w (w.alloc (.cells (cH had) 27)) := fun S => (qb.refl S w).alloc _
 have iv1 := iv.keeps (zO _)
 have kO := Q8 X n v s xs t ht fx.len fx.n2 (w.alloc (.cells (cH had) 27)) iv1.tr iv1.nodes
 rw [hir] at kO
 have QI := ξ kO
 have HB := ξ (qc w had)
 have HJ := ξ hJ
 have HR := ξ hR
 have HX := ξ jx
 have HE := ξ hE
 have vP := ξ qv
 have HC := ξ (ζ JR (ζ kC qB))
 have lfb := qv.lt
 have ZO : ¬ Mt v fb ∧ ¬ M2 fb := ⟨fun e => by
  obtain ⟨o1, o2, o3, o4, o5, o6, o7⟩ := iv.out
  rcases e with e | e | e
  ·subst e; exact o4 (.inl zJ)
  ·subst e; exact o5 (.inl zJ)
  ·subst e; exact o6 (.inl zJ), fun e => (jx.lt hJ fb e).2 _ _ qv⟩
 have HNM := ξ ZO
 clear kO hJ hR iv iv1 hE jx kC qB qv ZO
 unfold qk PV
 go_enter func113, ntmps113
 go_wp2_with fail
 refine QI.out.mono ?_
 rintro e w2 ⟨rfl, zj⟩
 have qH : ∀ S, qb S w w2 := fun S => (zO S).trans (qb.of_below zj)
 have jD := HB.out.below zj HB.out.lt
 have l2 := (qH (fun _ => False)).size
 have zk := vP.out.keeps (qH (fun _ => False)) id
 have k_ := qc.ten (w := w2) (b := w.heap.size) (had := had) jD
 have qh := HR.out c had E es w2 HC.out.1 HC.out.2.1 HC.out.2.2 (HX.out.keeps HJ.out (qH _)) (fun b hb => by have := HE.out b hb; omega)
 unfold PV qk at qh
 have qp := ξ qh
 have yg := ξ qH
 have Yc := ξ zk
 clear qh zO qH zj QI jD zk
 go_wp2_with fail
 refine qp.out.mono ?_
 rintro e w3 ⟨b, fs, rfl, jz, hbE, Vw, JT, hbM, qJ, vw, zl⟩
 have qho := Yc.out.keeps zl (fun e => e.elim HNM.out.1 HNM.out.2)
 have qhp := qiZ fb (s.length / 64 + 1) b (s.length / 64 + 1) (s.length / 64 + 1) f _ (by omega) (fun e => hbE (e ▸ zJ)) w3 qho jz
 have qln := ξ qhp
 have qt := ξ (ζ qJ (ζ vw zl))
 clear qhp qJ vw zl jz qho
 go_wp2_with fail
 refine qln.out.mono ?_
 rintro e w4 ⟨rfl, kI, vn⟩
 go_wp2
 first | go_end0 | refine bodyPost_ret (results_none rfl _ _ _) rfl ?_
 exact ⟨fs, rfl, kI, qt.out.1, HX.out.keeps qt.out.2.1 (vn.mono (fun i _ e => e ▸ zJ)), (((yg.out _).trans (qt.out.2.2.mono (fun i _ e => .inl e))).trans (vn.mono (fun i _ e => .inr e)))⟩
theorem qao (jx : JX X v s xs B c1 n1 P1 c2 n2 M2 J) (fx : Fx v s xs B P1) (n p : Nat) (t : T) (hn : n < v.n) (hp : p ≤ s.length) (ht : zT (fun i => xs[i]?) t n) (hR : zA X v s B M2 J 132 n t p) : zA X v s B M2 J 113 n t p := by
 cases h : vN t with
 | true => exact qgb jx fx n p t hn hp ht h hR
 | false => exact qgc jx fx n p t hn hp ht h (Z4 jx fx n p t hn hp ht hR)
end
section
variable (X : Nat) (v : kU) (s : List UInt8) (B : Nat) (M2 : Nat → Prop) (J : (Nat → Prop) → List Lit → World → Prop)
def QK (K : FuncId) (cap : Array Value) (k : Nat) (had : Cp) (E : Nat → Prop) (es : List Lit) (w : World) : Prop :=
 (∀ w, (callFunc K (#[.int .i64 k] ++ cap)).run prog w = .ok (.enter K (#[.int .i64 k] ++ cap)) w) ∧
 ∀ (fs : List Lit) (w' : World), es <+: fs → J E fs w' → qb (fun b => (Mt v b ∨ M2 b) ∨ E b) w w' → Calls prog K (#[.int .i64 k] ++ cap) w' fun e w'' => ∃ gs : List Lit, e = .returned (qk had) ∧ fs <+: gs ∧ J E gs w'' ∧ qb (fun b => Mt v b ∨ M2 b) w' w''
def GoC (n : Nat) (t : T) (k : Nat) : Prop := ∀ (c : Nat) (had : Cp) (E : Nat → Prop) (es : List Lit) (w : World) (fb : Nat) (f : Nat → Bool) (K : FuncId) (cap : Array Value), c ≤ B → zz t c → qo s.length had → J E es w → (∀ b, E b → b < w.heap.size) → E fb → qI w fb (s.length / 64 + 1) f → QK v M2 J K cap k had E es w →
 Calls prog 72 #[.pointer (some ⟨X, 0, none⟩), PV (s.length / 64 + 1) fb, .int .i64 n, .int .i64 k, .int .i64 c, .func (.func K) #[] cap] w fun e w' => ∃ fs : List Lit, e = .returned (.tuple #[]) ∧ qI w' fb (s.length / 64 + 1) (fun j => f j || (qd s t).ends k c had j) ∧ es <+: fs ∧ J E fs w' ∧ qb (fun b => (Mt v b ∨ M2 b) ∨ b = fb) w w'
end
section
variable {X : Nat} {v : kU} {s : List UInt8} {xs : List Nd} {B : Nat} {c1 : Lit → Nat} {n1 : Nat} {P1 : Lit → Prop} {c2 : Lit → Nat} {n2 : Nat} {M2 : Nat → Prop} {J : (Nat → Prop) → List Lit → World → Prop}
theorem Yd (jx : JX X v s xs B c1 n1 P1 c2 n2 M2 J) (fx : Fx v s xs B P1) (Ye : v.lp = none) (n k : Nat) (t : T) (hn : n < v.n) (hk : k ≤ s.length) (hA : zA X v s B M2 J 113 n t k) : GoC X v s B M2 J n t k := by
 intro c had E es w fb f K cap JR kC qB hJ hE zJ qv hL
 have iv := jx.iv hJ
 have x6 := iv.tr.c6
 rw [Ye] at x6
 have ZO : ¬ Mt v fb ∧ ¬ M2 fb := ⟨fun e => by
  obtain ⟨o1, o2, o3, o4, o5, o6, o7⟩ := iv.out
  rcases e with e | e | e
  ·subst e; exact o4 (.inl zJ)
  ·subst e; exact o5 (.inl zJ)
  ·subst e; exact o6 (.inl zJ), fun e => (jx.lt hJ fb e).2 _ _ qv⟩
 have HNM := ξ ZO
 have hen := hL.1 w.drew
 have qh := hL.2 es w.drew (List.prefix_refl _) (jx.keeps hJ (qb.refl _ w).drew) (qb.refl _ w).drew
 have qp := ξ qh
 have HJ := ξ hJ
 have HA := ξ hA
 have HX := ξ jx
 have HE := ξ hE
 have vP := ξ qv
 have HC := ξ (ζ JR (ζ kC qB))
 clear qh hJ hA jx hE qv kC qB iv hL ZO
 unfold PV
 go_enter func72, ntmps72
 go_wp2_with fail
 go_region
 go_wp2_with fail
 refine qp.out.mono ?_
 rintro e w2 ⟨gs, rfl, qJ, vV, qH⟩
 have kR := qH.size
 have ZE := HA.out c had E gs w2 fb f HC.out.1 HC.out.2.1 HC.out.2.2 vV (fun b hb => Nat.lt_of_lt_of_le (HE.out b hb) kR) zJ (vP.out.drew.keeps qH (fun e => e.elim HNM.out.1 HNM.out.2))
 unfold PV qk at ZE
 have HCA := ξ ZE
 have qt := ξ (ζ qJ qH)
 clear ZE qJ qH vV qp
 unfold qk
 go_wp2_with fail
 refine HCA.out.mono ?_
 rintro e w3 ⟨hs, rfl, jz, Yf, vw, zl⟩
 go_wp2
 first | go_end0 | refine bodyPost_ret (results_none rfl _ _ _) rfl ?_
 exact ⟨hs, rfl, jz, qt.out.1.trans Yf, vw, ((((qb.refl _ w).drew).trans qt.out.2).mono (fun i _ e => .inl e)).trans zl⟩
end
theorem qge (b k : Nat) (had : Cp) (w : World) (h : zG w b (cH had) 27) : Calls prog 160 #[.int .i64 k, .pointer (some ⟨b, 0, none⟩)] w fun e w' => e = .returned (qk had) ∧ ∀ S, qb S w w' := by
 have hb := h.alloc (.cells cZ 27)
 have k_ := qc.ten (w := (w.alloc (.cells cZ 27))) (b := b) (had := had) hb
 have HB := ξ h
 clear h hb
 unfold qk
 go_enter func160, ntmps160
 go_wp2
 refine bodyPost_ret (v := .agg (cH had)) (by simp [results, results160, go_sem]) rfl ⟨rfl, fun S => (qb.refl S w).alloc _⟩
section
variable (X : Nat) (v : kU) (s : List UInt8) (M2 : Nat → Prop) (J : (Nat → Prop) → List Lit → World → Prop)
def kX (n : Nat) (t : T) (p j : Nat) : Prop := ∀ (had : Cp) (E : Nat → Prop) (es : List Lit) (w : World), qo s.length had → J E es w → (∀ b, E b → b < w.heap.size) →
 Calls prog 62 #[.pointer (some ⟨X, 0, none⟩), .int .i64 n, .int .i64 p, .int .i64 j, qk had] w fun e w' => ∃ fs : List Lit, e = .returned (qk ((qd s t).leave p j had)) ∧ es <+: fs ∧ J E fs w' ∧ qb (fun b => Mt v b ∨ M2 b) w w'
end
section
variable {X : Nat} {v : kU} {s : List UInt8} {xs : List Nd} {B : Nat} {c1 : Lit → Nat} {n1 : Nat} {P1 : Lit → Prop} {c2 : Lit → Nat} {n2 : Nat} {M2 : Nat → Prop} {J : (Nat → Prop) → List Lit → World → Prop}
theorem qgf (jx : JX X v s xs B c1 n1 P1 c2 n2 M2 J) (a p k bx ba bp bh : Nat) (t : T) (had : Cp) (hL : kX X v s M2 J a t p k) (hc : qo s.length had) (E : Nat → Prop) (es : List Lit) (w : World) (hJ : J E es w) (hE : ∀ b, E b → b < w.heap.size)
  (hx : zG w bx #[.pointer (some ⟨X, 0, none⟩)] 63) (ha : zG w ba #[.int .i64 a] 3) (hp : zG w bp #[.int .i64 p] 3) (hh : zG w bh (cH had) 27) :
  Calls prog 161 #[.int .i64 k, .pointer (some ⟨bx, 0, none⟩), .pointer (some ⟨ba, 0, none⟩), .pointer (some ⟨bp, 0, none⟩), .pointer (some ⟨bh, 0, none⟩)] w fun e w' => ∃ gs : List Lit, e = .returned (qk ((qd s t).leave p k had)) ∧ es <+: gs ∧ J E gs w' ∧ qb (fun b => Mt v b ∨ M2 b) w w' := by
 have iv := jx.iv hJ
 have l := iv.lts
 have q1 := (hx.alloc (.cells cZ 27)).cell 0
 have q2 := (ha.alloc (.cells cZ 27)).cell 0
 have q3 := (hp.alloc (.cells cZ 27)).cell 0
 have hb := hh.alloc (.cells cZ 27)
 simp only [List.getElem?_toArray, List.getElem?_cons_zero] at q1 q2 q3
 have k_ := qc.ten (w := (w.alloc (.cells cZ 27))) (b := bh) (had := had) hb
 have zO : ∀ S, qb S w (w.alloc (.cells cZ 27)) := fun S => (qb.refl S w).alloc _
 have Y9 : qm (w.alloc (.cells cZ 27)) w.heap.size 10 27 (fun _ => .complex .f64 0 0) := qm.new w 10 27 (fun _ => .complex .f64 0 0)
 have qh := hL had (fun b => E b ∨ b = w.heap.size) es (w.alloc (.cells cZ 27)) hc (jx.mono (jx.keeps (jx.fresh hJ) (zO _)) (fun b hb => hb.imp id (fun e => by omega))) (fun b hb => by
  rw [World.size_alloc]
  rcases hb with hb | rfl
  ·have := hE b hb; omega
  ·omega)
 obtain ⟨Z, hZ⟩ : ∃ Z, Z = (qd s t).leave p k had := ⟨_, rfl⟩
 rw [← hZ] at qh ⊢
 clear hZ
 unfold qk at qh
 have qp := ξ qh
 have HX := ξ jx
 have HJ := ξ hJ
 have HR0 := ξ Y9
 have ZD := ξ (fun b hb => (jx.lt hJ b hb).1)
 have HK1 := ξ zO
 clear qh jx hJ Y9 iv hx ha hp hh hb hL zO
 unfold qk
 go_enter func161, ntmps161
 go_wp2_with fail
 refine qp.out.mono ?_
 rintro e w3 ⟨gs, rfl, qJ, vw, zl⟩
 have kH : qm w3 w.heap.size 10 27 (fun _ => .complex .f64 0 0) := ⟨(zl.block _ HR0.out.lt (fun e => by
  rcases e with (e | e | e) | e
  ·omega
  ·omega
  ·omega
  ·have := ZD.out _ e; omega)).trans HR0.out.heap⟩
 have r_ := kH.rf10
 have zI := ξ (kn (w := w3) (b := w.heap.size) Z)
 have za := ξ (qV (w := w3) (b := w.heap.size) kH Z)
 clear kH
 have qt := ξ (ζ qJ (ζ vw zl))
 clear qJ vw zl
 go_wp2
 refine bodyPost_ret (v := .agg (cH Z)) (by simp [results, results161, go_sem, za.out]) rfl ⟨gs, rfl, qt.out.1, HX.out.mono (HX.out.keeps qt.out.2.1 (zI.out.mono (fun i _ e => .inr e))) (fun b hb => .inl hb), ?_⟩
 exact ((HK1.out _).trans qt.out.2.2).trans2 (zI.out) (fun i hi e => by omega)
end
end Go.Proofs.YtjgegohidhdbpaaGreatDoor
