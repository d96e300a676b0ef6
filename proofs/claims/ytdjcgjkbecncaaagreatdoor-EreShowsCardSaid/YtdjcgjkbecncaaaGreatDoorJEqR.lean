/- ere: one step of Parse, whatever stands there. -/
import Derived.Test.YtdjcgjkbecncaaaGreatDoorJEpQ
import Derived.Test.YtdjcgjkbecncaaaGreatDoorJEqB
import Derived.Test.YtdjcgjkbecncaaaGreatDoorJEpR
import Derived.Test.YtdjcgjkbecncaaaGreatDoorJEqD
import Derived.Test.YtdjcgjkbecncaaaGreatDoorJScope
import Derived.Test.YtdjcgjkbecncaaaGreatDoorJEqJ
import Derived.Test.YtdjcgjkbecncaaaGreatDoorJEpB
import Derived.Test.YtdjcgjkbecncaaaGreatDoorJEqM
import Derived.Test.YtdjcgjkbecncaaaGreatDoorJBrKe
import Derived.Test.YtdjcgjkbecncaaaGreatDoorJRxTd
import Derived.Test.YtdjcgjkbecncaaaGreatDoorJRxLe
set_option linter.unusedVariables false
set_option linter.unusedSimpArgs false
set_option maxRecDepth 100000
set_option maxHeartbeats 40000000
namespace Go.Proofs.YtdjcgjkbecncaaaGreatDoor
open Go.RowKit
section
variable {B b mb : Nat} {mo : Obj} {s : List UInt8} {r : ES} {vl vL : Value} {vo : List (Value × Value)} {vt : Value × Value} {w : World}
theorem lsum_mem {l : List EL} {t : EL} (h : t ∈ l) : t.items.length ≤ lsum l := by
 induction l with
 | nil => cases h
 | cons a l ih =>
  simp only [lsum, List.map_cons, List.sum_cons]
  rcases List.mem_cons.1 h with rfl | h
  ·omega
  ·have := ih h
   simp only [lsum] at this
   omega
structure StepK (B b mb : Nat) (mo : Obj) (s : List UInt8) (r : ES) (c : UInt8) (K : FuncId) (w : World) : Prop where
 en : ∀ args w, (callFunc K args).run Tryz.prog w = .ok (.enter K args) w
 c : Calls Tryz.prog K #[.pointer (some ⟨b, 0, none⟩)] w (SOut B b mb mo s (stepE s r c) w)
theorem step_sp (c : UInt8) (hc : s[r.p]? = some c) (hs5 : s.length ≤ 99990) (hm : MaxL w) (hy : SynV w) (h : EM B b mb mo s r vl vL vo vt w) (hI : EInv s r) (hsp : spB c.toNat = true) :
  ∃ K, fnB c.toNat = .func (.func K) #[] #[] ∧ StepK B b mb mo s r c K w := by
 have hp := (List.getElem?_eq_some_iff.1 hc).1
 have hsum := hI.sum
 have hni : r.top.items.length ≤ 200000 := by omega
 have hnr : r.top.rows.length ≤ 200000 := by omega
 have hlo : r.lo.length ≤ 100000 := by have := hI.lo; have := hI.g; omega
 have hti : ∀ t ∈ r.lo, t.items.length ≤ 200000 := fun t ht => by have := lsum_mem ht; omega
 have hk := spB_mem hsp
 simp only [keysB, List.mem_cons, List.not_mem_nil, or_false] at hk
 have hcc : ∀ n : Nat, n < 256 → c.toNat = n → c = UInt8.ofNat n := fun n hn e => by rw [← e, UInt8.ofNat_toNat]
 rcases hk with e | e | e | e | e | e | e | e | e | e | e | e
 ·obtain rfl := hcc 94 (by decide) e
  exact ⟨_, rfl, fun args w => by simp [go_sem], (ebegin_c w h hp hni).mono fun e w' ho => ho.step⟩
 ·obtain rfl := hcc 36 (by decide) e
  exact ⟨_, rfl, fun args w => by simp [go_sem], (eend_c w h hp hni).mono fun e w' ho => ho.step⟩
 ·obtain rfl := hcc 46 (by decide) e
  exact ⟨_, rfl, fun args w => by simp [go_sem], (edot_c w h hp hni).mono fun e w' ho => ho.step⟩
 ·obtain rfl := hcc 91 (by decide) e
  exact ⟨_, rfl, fun args w => by simp [go_sem], elist_c w hm h (fun F m hb => by have := (brkP_le hb).2; simp only [List.length_drop] at this; omega) hni⟩
 ·obtain rfl := hcc 40 (by decide) e
  exact ⟨_, rfl, fun args w => by simp [go_sem], eopen_c w h hp hlo⟩
 ·obtain rfl := hcc 41 (by decide) e
  exact ⟨_, rfl, fun args w => by simp [go_sem], eshut_c w h hp hni hnr hlo hti⟩
 ·obtain rfl := hcc 124 (by decide) e
  exact ⟨_, rfl, fun args w => by simp [go_sem], ebar_c w h hp hni hnr⟩
 ·obtain rfl := hcc 92 (by decide) e
  exact ⟨_, rfl, fun args w => by simp [go_sem], eescape_c w h hp hni⟩
 ·obtain rfl := hcc 42 (by decide) e
  exact ⟨_, rfl, fun args w => by simp [go_sem], estar_c w h hp hI.ia hni⟩
 ·obtain rfl := hcc 43 (by decide) e
  exact ⟨_, rfl, fun args w => by simp [go_sem], eplus_c w h hp hI.ia hni⟩
 ·obtain rfl := hcc 63 (by decide) e
  exact ⟨_, rfl, fun args w => by simp [go_sem], emark_c w h hp hI.ia hni⟩
 ·obtain rfl := hcc 123 (by decide) e
  exact ⟨_, rfl, fun args w => by simp [go_sem], ebrace_c w hm hy h hs5 hp hI.ia hni⟩
theorem step_it (c : UInt8) (hc : s[r.p]? = some c) (hs5 : s.length ≤ 99990) (h : EM B b mb mo s r vl vL vo vt w) (hI : EInv s r) (hsp : spB c.toNat = false) :
  StepK B b mb mo s r c 29 w := by
 have hp := (List.getElem?_eq_some_iff.1 hc).1
 have hsum := hI.sum
 have hni : r.top.items.length ≤ 200000 := by omega
 simp only [spB, Bool.or_eq_false_iff, beq_eq_false_iff_ne] at hsp
 obtain ⟨⟨⟨⟨⟨⟨⟨⟨⟨⟨⟨h94, h36⟩, h46⟩, h91⟩, h40⟩, h41⟩, h124⟩, h92⟩, h42⟩, h43⟩, h63⟩, h123⟩ := hsp
 have hne : ∀ n : Nat, n < 256 → c.toNat ≠ n → c ≠ UInt8.ofNat n := fun n hn h e => h (by rw [e, UInt8.toNat_ofNat']; omega)
 have hE : stepE s r c = .ok (r.item (setNd fun i => i == c.toNat) 1 true) := by
  unfold stepE
  rw [if_neg (show ¬ c = 94 from hne 94 (by decide) h94)]
  rw [if_neg (show ¬ c = 36 from hne 36 (by decide) h36)]
  rw [if_neg (show ¬ c = 46 from hne 46 (by decide) h46)]
  rw [if_neg (show ¬ c = 91 from hne 91 (by decide) h91)]
  rw [if_neg (show ¬ c = 40 from hne 40 (by decide) h40)]
  rw [if_neg (show ¬ c = 41 from hne 41 (by decide) h41)]
  rw [if_neg (show ¬ c = 124 from hne 124 (by decide) h124)]
  rw [if_neg (show ¬ c = 92 from hne 92 (by decide) h92)]
  rw [if_neg (show ¬ c = 42 from hne 42 (by decide) h42)]
  rw [if_neg (show ¬ c = 43 from hne 43 (by decide) h43)]
  rw [if_neg (show ¬ c = 63 from hne 63 (by decide) h63)]
  rw [if_neg (show ¬ c = 123 from hne 123 (by decide) h123)]
 refine ⟨fun args w => by simp [go_sem], ?_⟩
 rw [hE]
 exact (eitself_c c hc w h hp hni).mono fun e w' ho => ho.step
end
end Go.Proofs.YtdjcgjkbecncaaaGreatDoor
namespace Go.Proofs.YtdjcgjkbecncaaaGreatDoor
open Go.RowKit
def EOut (s : List UInt8) (e : Ending) (w' : World) : Prop :=
 match ereP s with
 | .ok l => ∃ v, e = .returned (.tuple #[v, .int .i64 0, .int .i64 0]) ∧ w'.ownsRow 0 37 10 v l.length (flat l) ∧ l.length ≤ 120
 | .error (z, a) => e = .returned (.tuple #[.slice none 0 0, .int .i64 (a : Int), .int .i64 z])
theorem ereP_ne {s : List UInt8} (h : s ≠ []) : ereP s = match loopE s (s.length + 1) startE with
  | .error e => .error e
  | .ok r => .ok r.l := by unfold ereP; rw [if_neg h]; rfl
theorem EOut.no {s : List UInt8} {z : Int} {a : Nat} {w' : World} (h0 : s ≠ []) (h : loopE s (s.length + 1) startE = .error (z, a)) : EOut s (.returned (.tuple #[.slice none 0 0, .int .i64 (a : Int), .int .i64 z])) w' := by
 unfold EOut
 rw [ereP_ne h0, h]
theorem EOut.yes {s : List UInt8} {q : ES} {v : Value} {w' : World} (h0 : s ≠ []) (h : loopE s (s.length + 1) startE = .ok q) (hv : w'.ownsRow 0 37 10 v q.l.length (flat q.l)) (hl : q.l.length ≤ 120) : EOut s (.returned (.tuple #[v, .int .i64 0, .int .i64 0])) w' := by
 unfold EOut
 rw [ereP_ne h0, h]
 exact ⟨v, rfl, hv, hl⟩
theorem loopE_err {s : List UInt8} {fu : Nat} {r : ES} {c : UInt8} {z : Int} (hc : s[r.p]? = some c) (h : stepE s r c = .error z) : loopE s (fu + 1) r = .error (z, r.p) := by
 conv => lhs; unfold loopE
 rw [hc]; simp only; rw [h]
theorem loopE_ok {s : List UInt8} {fu : Nat} {r q : ES} {c : UInt8} (hc : s[r.p]? = some c) (h : stepE s r c = .ok q) : loopE s (fu + 1) r = loopE s fu q := by
 conv => lhs; unfold loopE
 rw [hc]; simp only; rw [h]
theorem loopE_end {s : List UInt8} {fu : Nat} {r : ES} (hp : s.length ≤ r.p) : loopE s fu r = finE s r := by
 cases fu with
 | zero => rfl
 | succ f => unfold loopE; rw [List.getElem?_eq_none hp]
theorem finE_len {s : List UInt8} {r q : ES} (h : finE s r = .ok q) : q.l.length ≤ 120 := by
 unfold finE at h
 split at h
 ·cases h
 ·split at h
  ·cases h
  ·split at h
   ·cases h
   ·rename_i hn
    cases h
    omega
theorem finE_err {s : List UInt8} {r : ES} {z : Int} {k : Nat} (h : finE s r = .error (z, k)) : z = 2 ∨ (40 ≤ z ∧ z ≤ 44) := by
 unfold finE at h
 split at h
 ·cases h; omega
 ·split at h
  ·cases h; omega
  ·split at h
   ·cases h; omega
   ·cases h
theorem actE_err {r : ES} {t : Tk5} {L : Nat} (ht : TokOk L t) {e : Int} (ho : actE r t = .error e) : 40 ≤ e ∧ e ≤ 44 := by
 cases t with
 | it x n f => cases ho
 | op =>
  change openE r = .error e at ho
  unfold openE at ho
  split at ho
  ·cases ho; decide
  ·cases ho
 | sh =>
  change shutE r = .error e at ho
  unfold shutE at ho
  split at ho
  ·cases ho; decide
  ·split at ho
   ·cases ho; decide
   ·cases ho
 | ba =>
  change barE r = .error e at ho
  unfold barE at ho
  split at ho
  ·cases ho; decide
  ·cases ho
 | tm n m M =>
  change timesE r n m M = .error e at ho
  unfold timesE at ho
  split at ho
  ·cases ho
  ·cases ho; decide
 | er e' => cases ho; exact ht
theorem actE_p {r q : ES} {t : Tk5} {L : Nat} (ht : TokOk L t) (ho : actE r t = .ok q) : r.p < q.p := by
 cases t with
 | it x n f =>
  cases ho
  have h1 := ht.2.2.1
  show r.p < r.p + n
  omega
 | op =>
  change openE r = .ok q at ho
  unfold openE at ho
  split at ho
  ·cases ho
  ·cases ho
   show r.p < r.p + 1
   omega
 | sh =>
  change shutE r = .ok q at ho
  unfold shutE at ho
  split at ho
  ·cases ho
  ·split at ho
   ·cases ho
   ·rename_i q' hq
    have k := (endE_ok hq).1
    cases ho
    rw [chE_rest]
    show r.p < q'.p + 1
    omega
 | ba =>
  change barE r = .ok q at ho
  unfold barE at ho
  split at ho
  ·cases ho
  ·rename_i q' hq
   have k := (endE_ok hq).1
   cases ho
   show r.p < q'.p + 1
   omega
 | tm n m M =>
  change timesE r n m M = .ok q at ho
  unfold timesE at ho
  have h1 := ht.2.1
  split at ho
  ·cases ho
   show r.p < r.p + n
   omega
  ·cases ho
 | er e => cases ho
theorem stepE_err {s : List UInt8} {r : ES} {c : UInt8} {z : Int} (hc : s[r.p]? = some c) (hI : EInv s r) (h : stepE s r c = .error z) : 40 ≤ z ∧ z ≤ 44 := by
 rw [stepE_act] at h
 exact actE_err (tok_ok s r.p c hc) h
theorem stepE_p {s : List UInt8} {r q : ES} {c : UInt8} (hc : s[r.p]? = some c) (h : stepE s r c = .ok q) : r.p < q.p := by
 rw [stepE_act] at h
 exact actE_p (tok_ok s r.p c hc) h
theorem own0 {w : World} {B n sz : Nat} {T : TypeId} {v : Value} {xs : List Value} (h : w.ownsRow B T sz v n xs) : w.ownsRow 0 T sz v n xs := by
 refine ⟨h.1, ?_⟩
 rcases h.2 with q | ⟨g, cap, cur, e, hg, r⟩
 ·exact .inl q
 ·exact .inr ⟨g, cap, cur, e, Nat.zero_le _, r⟩
theorem eparse_ne (s : List UInt8) (hs : s.length ≤ 99990) (h0 : s ≠ []) (w : World) (hm : MaxL w) (hy : SynV w) :
  Calls Tryz.prog 13 #[.string ⟨s.toArray⟩] w fun e w' => EOut s e w' ∧ Below w.heap.size w w' := by
 have HRD := Lib.hid readers_c
 have hse : s.isEmpty = false := by cases s with | nil => exact absurd rfl h0 | cons a l => rfl
 obtain ⟨W1, hW1⟩ : ∃ W1, W1 = w.alloc (.cells #[.int .i64 0, .int .i64 0, .slice none 0 0, .slice none 0 0] 55) := ⟨_, rfl⟩
 obtain ⟨W2, hW2⟩ : ∃ W2, W2 = W1.alloc (.cells #[.string ⟨s.toArray⟩, .int .i64 0, .slice none 0 0, .slice (some ⟨w.heap.size, 0, none⟩) 1 1, .int .i64 0, .bool false] 58) := ⟨_, rfl⟩
 have z1 : W1.heap.size = w.heap.size + 1 := by rw [hW1]; exact World.size_alloc _ _
 have z2 : W2.heap.size = w.heap.size + 2 := by rw [hW2, World.size_alloc, z1]
 have b1 : Below w.heap.size w W1 := by rw [hW1]; exact (Below.refl _ w).alloc (Nat.le_refl _) _
 have b2 : Below w.heap.size w W2 := by rw [hW2]; exact b1.alloc (by omega) _
 have g1 : W2.heap[w.heap.size]? = some (.cells #[.int .i64 0, .int .i64 0, .slice none 0 0, .slice none 0 0] 55 (0, 0)) := by
  have : W1.heap[w.heap.size]? = some (.cells #[.int .i64 0, .int .i64 0, .slice none 0 0, .slice none 0 0] 55 (0, 0)) := by rw [hW1]; exact heap_new w _
  rw [hW2, heap_alloc_lt _ _ _ (by omega)]; exact this
 have g2 : W2.heap[w.heap.size + 1]? = some (.cells #[.string ⟨s.toArray⟩, .int .i64 0, .slice none 0 0, .slice (some ⟨w.heap.size, 0, none⟩) 1 1, .int .i64 0, .bool false] 58 (0, 0)) := by
  rw [hW2, ← z1]; exact heap_new W1 _
 have hE3 : ∀ w3 mo, w3.heap[W2.heap.size]? = some mo → mo.isCells = false → Below W2.heap.size W2 w3 → EM w.heap.size (w.heap.size + 1) W2.heap.size mo s startE (.slice none 0 0) (.slice (some ⟨w.heap.size, 0, none⟩) 1 1) [] (.slice none 0 0, .slice none 0 0) w3 := fun w3 mo hmo hnc hB => by
  have e1 : w3.heap[w.heap.size]? = _ := (hB.block w.heap.size (by omega)).trans g1
  have e2 : w3.heap[w.heap.size + 1]? = _ := (hB.block (w.heap.size + 1) (by omega)).trans g2
  refine ⟨e2, by omega, hmo, hnc, ⟨⟨rfl, .inl ⟨rfl, rfl⟩⟩, ⟨rfl, .inr ⟨w.heap.size, 1, _, rfl, Nat.le_refl _, e1, Nat.le_refl _, by decide, rfl, rfl⟩⟩, .cons ⟨⟨rfl, .inl ⟨rfl, rfl⟩⟩, ⟨rfl, .inl ⟨rfl, rfl⟩⟩⟩ .nil, ?_, by decide⟩, by omega, Nat.zero_le _, by decide⟩
  simp [vals, apart, Value.ownBlock]
 have hyl := hy.lt
 have HB2 := Lib.hid b2
 have HE3 := Lib.hid hE3
 have HM := Lib.hid fun w' (hB : Below w.heap.size w w') => hm.below hB
 have HY := Lib.hid fun w' (hB : Below w.heap.size w w') => hy.same (hB.block _ hyl)
 have HW := Lib.hid (show (w.alloc (.cells #[.int .i64 0, .int .i64 0, .slice none 0 0, .slice none 0 0] 55)).alloc (.cells #[.string ⟨s.toArray⟩, .int .i64 0, .slice none 0 0, .slice (some ⟨w.heap.size, 0, none⟩) 1 1, .int .i64 0, .bool false] 58) = W2 by rw [hW2, hW1])
 clear hW1 z1 b1 b2 g1 g2 hE3 hm hy hyl hW2
 go_enter Tryz.func13, Tryz.ntmps13
 go_wp2_with fail
 refine wp_scope_fwd 0 rfl ?_
 go_wp2_with fail
 rw [HW.out]
 refine (HRD.out _).mono ?_
 rintro e w3 ⟨rfl, ⟨mo, hmo, hsp⟩, hB3⟩
 have hE := HE3.out w3 mo hmo hsp.nc hB3
 obtain ⟨mb, hmb⟩ : ∃ mb, mb = W2.heap.size := ⟨_, rfl⟩
 rw [← hmb] at hE hsp
 have HSP := Lib.hid hsp
 have HB3 := Lib.hid (HB2.out.trans (hB3.mono (by have := HB2.out.size; omega)))
 have HE := Lib.hid hE
 clear hsp hB3 hmo hE HE3 HRD
 rw [← hmb]
 clear hmb z2 HW HB2
 go_wp2_with fail
 go_loopg [7, 8] (s.length) (fun gm pv ev wx => ∃ (r : ES) (vl vL : Value) (vo : List (Value × Value)) (vt : Value × Value) (fu pl : Nat), gm = s.length - r.p ∧ pv = .int .i64 (pl : Int) ∧ ev = .int .i64 0 ∧ EM w.heap.size (w.heap.size + 1) mb mo s r vl vL vo vt wx ∧ EInv s r ∧ s.length < fu + r.p ∧ Hid (loopE s (s.length + 1) startE = loopE s fu r) ∧ Below w.heap.size w wx)
 case atStart => exact ⟨startE, _, _, _, _, s.length + 1, 0, rfl, rfl, rfl, HE.out, EInv.start s, by show s.length < s.length + 1 + 0; omega, Lib.hid rfl, HB3.out⟩
 case round =>
  obtain ⟨r, vl, vL, vo, vt, fu, pl, rfl, rfl, rfl, hE, hI, hfu, hL, hB⟩ := hrel
  have hp := hI.p
  have d1 : wr.cell? ⟨w.heap.size + 1, 1, none⟩ = some (.int .i64 (r.p : Int)) := (hE.cell 1).trans rfl
  have hlen := hE.len
  by_cases hlt : r.p < s.length
  ·have hg : ((r.p : Int) < (s.length : Int)) = True := by simp; omega
   obtain ⟨c, hc⟩ : ∃ c, s[r.p]? = some c := ⟨_, List.getElem?_eq_getElem hlt⟩
   have hix := fun W => eix_c s r.p c hlen hc W
   obtain ⟨fu, rfl⟩ : ∃ f, fu = f + 1 := ⟨fu - 1, by omega⟩
   have hm' := HM.out wr hB
   have hy' := HY.out wr hB
   obtain ⟨v, hrun, hv⟩ := HSP.out.look c wr hE.map
   cases hsp : spB c.toNat with
   | true =>
    obtain ⟨K, hK0, hK⟩ := step_sp c hc hs hm' hy' hE hI hsp
    rw [hsp, hv hsp, hK0] at hrun
    clear hv hK0 hsp
    have HST := Lib.hid hK.c
    have hen := hK.en
    have HEB := Lib.hid hB
    have HR := Lib.hid (fun z (h : stepE s r c = .error z) => And.intro (stepE_err hc hI h) (hL.out.trans (loopE_err (fu := fu) hc h)))
    have HQ := Lib.hid (fun q (h : stepE s r c = .ok q) => And.intro (stepE_p hc h) (And.intro (hI.step hc h) (hL.out.trans (loopE_ok (fu := fu) hc h))))
    clear hK hE hI hL hB hc HE HB3 HSP hm' hy'
    go_wp2_with fail
    refine HST.out.mono ?_
    intro e w5 ho
    unfold SOut at ho
    obtain ⟨hB5, hm5⟩ := ho
    have HB5 := Lib.hid (HEB.out.trans hB5)
    clear hB5 HEB HST
    cases hst : stepE s r c with
    | error z =>
     rw [hst] at hm5
     simp only at hm5
     subst hm5
     obtain ⟨hz, hl⟩ := HR.out z hst
     have hz0 : (z != 0) = true := by rw [bne_iff_ne]; omega
     have HL := Lib.hid hl
     clear hl hst HR HQ hz
     go_wp2
     go_step3
     refine ⟨rfl, ?_⟩
     change Code.wp _ _ _ _ _
     go_wp2
     rw [Exit.noGoto_ret]
     refine bodyPost_ret (v := .tuple #[.slice none 0 0, .int .i64 (r.p : Int), .int .i64 z]) (by simp [results, Tryz.results13, go_sem]) rfl ?_
     exact ⟨.no h0 HL.out, HB5.out⟩
    | ok q =>
     rw [hst] at hm5
     simp only at hm5
     obtain ⟨rfl, vl', vL', vo', vt', hE'⟩ := hm5
     obtain ⟨hp1, hI1, hl⟩ := HQ.out q hst
     have HL := Lib.hid hl
     have HE5 := Lib.hid hE'
     have HI5 := Lib.hid hI1
     have hpq := hI1.p
     clear hl hst HR HQ hE' hI1
     go_wp2
     go_roundg (s.length - q.p)
     case measure => omega
     case rel => exact ⟨q, vl', vL', vo', vt', fu, r.p, rfl, rfl, rfl, HE5.out, HI5.out, by omega, HL.out, HB5.out⟩
   | false =>
    have hK := step_it c hc hs hE hI hsp
    rw [hsp] at hrun
    clear hv hsp
    have HST := Lib.hid hK.c
    have hen := hK.en
    have HEB := Lib.hid hB
    have HR := Lib.hid (fun z (h : stepE s r c = .error z) => And.intro (stepE_err hc hI h) (hL.out.trans (loopE_err (fu := fu) hc h)))
    have HQ := Lib.hid (fun q (h : stepE s r c = .ok q) => And.intro (stepE_p hc h) (And.intro (hI.step hc h) (hL.out.trans (loopE_ok (fu := fu) hc h))))
    clear hK hE hI hL hB hc HE HB3 HSP hm' hy'
    go_wp2_with fail
    refine HST.out.mono ?_
    intro e w5 ho
    unfold SOut at ho
    obtain ⟨hB5, hm5⟩ := ho
    have HB5 := Lib.hid (HEB.out.trans hB5)
    clear hB5 HEB HST
    cases hst : stepE s r c with
    | error z =>
     rw [hst] at hm5
     simp only at hm5
     subst hm5
     obtain ⟨hz, hl⟩ := HR.out z hst
     have hz0 : (z != 0) = true := by rw [bne_iff_ne]; omega
     have HL := Lib.hid hl
     clear hl hst HR HQ hz
     go_wp2
     go_step3
     refine ⟨rfl, ?_⟩
     change Code.wp _ _ _ _ _
     go_wp2
     rw [Exit.noGoto_ret]
     refine bodyPost_ret (v := .tuple #[.slice none 0 0, .int .i64 (r.p : Int), .int .i64 z]) (by simp [results, Tryz.results13, go_sem]) rfl ?_
     exact ⟨.no h0 HL.out, HB5.out⟩
    | ok q =>
     rw [hst] at hm5
     simp only at hm5
     obtain ⟨rfl, vl', vL', vo', vt', hE'⟩ := hm5
     obtain ⟨hp1, hI1, hl⟩ := HQ.out q hst
     have HL := Lib.hid hl
     have HE5 := Lib.hid hE'
     have HI5 := Lib.hid hI1
     have hpq := hI1.p
     clear hl hst HR HQ hE' hI1
     go_wp2
     go_roundg (s.length - q.p)
     case measure => omega
     case rel => exact ⟨q, vl', vL', vo', vt', fu, r.p, rfl, rfl, rfl, HE5.out, HI5.out, by omega, HL.out, HB5.out⟩
  ·have hg : ((r.p : Int) < (s.length : Int)) = False := by simp; omega
   have hsum := hI.sum
   have HFI := Lib.hid (efinish_c wr hE (by omega) (by omega) (by have := hI.lo; have := hI.g; omega))
   have HEB := Lib.hid hB
   have HL := Lib.hid (hL.out.trans (loopE_end (fu := fu) (by omega)))
   have HFE := Lib.hid (fun z k (h : finE s r = .error (z, k)) => finE_err h)
   clear hE hI hL hB HE HB3 HSP hsum
   go_wp2_with fail
   refine HFI.out.mono ?_
   intro e w5 ho
   unfold FOut at ho
   obtain ⟨hB5, hm5⟩ := ho
   have HB5 := Lib.hid (HEB.out.trans hB5)
   clear hB5 HEB HFI
   cases hst : finE s r with
   | error er =>
    obtain ⟨z, k⟩ := er
    rw [hst] at hm5
    simp only at hm5
    subst hm5
    have hz := HFE.out z k hst
    have hz0 : (z != 0) = true := by rw [bne_iff_ne]; omega
    have HL2 := Lib.hid (HL.out.trans hst)
    clear hst HL HFE hz
    go_wp2
    go_step3
    refine ⟨rfl, ?_⟩
    change Code.wp _ _ _ _ _
    go_wp2
    rw [Exit.noGoto_ret]
    refine bodyPost_ret (v := .tuple #[.slice none 0 0, .int .i64 (k : Int), .int .i64 z]) (by simp [results, Tryz.results13, go_sem]) rfl ?_
    exact ⟨.no h0 HL2.out, HB5.out⟩
   | ok q =>
    rw [hst] at hm5
    simp only at hm5
    obtain ⟨rfl, vl', vL', vo', vt', hE'⟩ := hm5
    have d2 : w5.cell? ⟨w.heap.size + 1, 2, none⟩ = some vl' := (hE'.cell 2).trans rfl
    obtain ⟨o9, c9, hv9⟩ := hE'.slice
    have HN := Lib.hid hE'.P.nl
    have HQ := Lib.hid (finE_len hst)
    have HL2 := Lib.hid (HL.out.trans hst)
    clear hst HL HFE hE'
    subst hv9
    go_wp2
    rw [jump_ret]
    refine bodyPost_ret (v := .tuple #[.slice o9 q.l.length c9, .int .i64 0, .int .i64 0]) (by simp [results, Tryz.results13, go_sem]) rfl ?_
    exact ⟨.yes h0 HL2.out (own0 HN.out) HQ.out, HB5.out⟩
end Go.Proofs.YtdjcgjkbecncaaaGreatDoor
namespace Go.Proofs.YtdjcgjkbecncaaaGreatDoor
open Go.RowKit
theorem eparse_nil (w : World) : Calls Tryz.prog 13 #[.string ⟨#[]⟩] w fun e w' => EOut [] e w' ∧ Below w.heap.size w w' := by
 have HRD := Lib.hid readers_c
 obtain ⟨W2, hW2⟩ : ∃ W2, W2 = (w.alloc (.cells #[.int .i64 0, .int .i64 0, .slice none 0 0, .slice none 0 0] 55)).alloc (.cells #[.string ⟨#[]⟩, .int .i64 0, .slice none 0 0, .slice (some ⟨w.heap.size, 0, none⟩) 1 1, .int .i64 0, .bool false] 58) := ⟨_, rfl⟩
 have b2 : Below w.heap.size w W2 := by rw [hW2]; exact ((Below.refl _ w).alloc (Nat.le_refl _) _).alloc (by rw [World.size_alloc]; omega) _
 have HB2 := Lib.hid b2
 have HW := Lib.hid hW2.symm
 clear b2 hW2
 go_enter Tryz.func13, Tryz.ntmps13
 go_wp2_with fail
 refine wp_scope_fwd 0 rfl ?_
 go_wp2_with fail
 rw [HW.out]
 refine (HRD.out _).mono ?_
 rintro e w3 ⟨rfl, _, hB3⟩
 have HB3 := Lib.hid (HB2.out.trans (hB3.mono HB2.out.size))
 clear hB3 HB2 HRD HW
 have HA := Lib.hid (HB3.out.alloc HB3.out.size (.cells #[.int .i64 0, .int .u64 0, .int .u64 0, .int .u64 0, .int .u64 0, .int .i64 0, .int .i64 0, .int .i64 0, .int .i64 0, .int .i64 0] 37))
 have HN := Lib.hid (heap_new w3 (.cells #[.int .i64 0, .int .u64 0, .int .u64 0, .int .u64 0, .int .u64 0, .int .i64 0, .int .i64 0, .int .i64 0, .int .i64 0, .int .i64 0] 37))
 go_wp2
 rw [jump_ret]
 refine bodyPost_ret (v := .tuple #[.slice (some ⟨w3.heap.size, 0, none⟩) 1 1, .int .i64 0, .int .i64 0]) (by simp [results, Tryz.results13, go_sem]) rfl ?_
 refine ⟨⟨_, rfl, ⟨rfl, .inr ⟨w3.heap.size, 1, _, rfl, Nat.zero_le _, HN.out, Nat.le_refl _, by decide, rfl, rfl⟩⟩, by decide⟩, HA.out⟩
theorem eparse_c (s : List UInt8) (hs : s.length ≤ 99990) (w : World) (hw : Fit5 w) :
  Calls Tryz.prog 13 #[.string ⟨s.toArray⟩] w fun e w' => EOut s e w' ∧ Below w.heap.size w w' := by
 by_cases h0 : s = []
 ·subst h0
  exact eparse_nil w
 ·exact eparse_ne s hs h0 w hw.m hw.s
def parsedE (s : List UInt8) : List Nd := match ereP s with
 | .ok l => l
 | .error _ => []
structure ENodes (w : World) (s : List UInt8) (e : Ending) (w' : World) (p : Option Addr) (n cap : Nat) (a z : Int) : Prop where
 e : e = .returned (.tuple #[.slice p n cap, .int .i64 a, .int .i64 z])
 x : Nodes w' p n (parsedE s)
 n : n ≤ 120
 ok : ∀ l, ereP s = .ok l → a = 0 ∧ z = 0
 er : ∀ u v, ereP s = .error (u, v) → z = u ∧ a = v
theorem eout_nodes {w w' : World} {s : List UInt8} {e : Ending} (h : EOut s e w') : ∃ p n cap a z, ENodes w s e w' p n cap a z := by
 unfold EOut at h
 split at h
 ·rename_i l hq
  obtain ⟨v, rfl, ho, hb⟩ := h
  have hp : parsedE s = l := by unfold parsedE; rw [hq]
  obtain ⟨t, ht⟩ := ere_ok hq
  obtain ⟨p, cap, rfl, hN, _⟩ := bnodes_of_own ho rfl (by omega) (fun i x hx => ht.fits x (List.mem_of_getElem? hx))
  refine ⟨p, l.length, cap, 0, 0, rfl, by rw [hp]; exact hN, hb, fun q' h => ⟨rfl, rfl⟩, fun u v h => by (rw [hq] at h; cases h)⟩
 ·rename_i z a hq
  subst h
  have hp : parsedE s = [] := by unfold parsedE; rw [hq]
  refine ⟨none, 0, 0, _, _, rfl, ?_, by omega, fun q h => by (rw [hq] at h; cases h), fun u v h => by (rw [hq] at h; cases h; exact ⟨rfl, rfl⟩)⟩
  rw [hp]
  exact ⟨rfl, by omega, fun h => by omega, fun h => by omega, fun i x hx => by simp at hx⟩
end Go.Proofs.YtdjcgjkbecncaaaGreatDoor
namespace Go.Proofs.YtdjcgjkbecncaaaGreatDoor
open Go.RowKit
def printsE (xs : List Nd) (t : T) : Bool := decide (parsedE (textE t) = xs)
theorem eprint_in (b o n cap : Nat) (xs : List Nd) (t : T) (hp : IsPat xs t) (hlen : xs.length = n) (hfit : ∀ (i : Nat) (x : Nd), xs[i]? = some x → x.Fits) (w : World) (hw : Fit5 w) (hx : NodesAt w b o xs) :
  Calls Tryz.prog 19 #[.slice (some ⟨b, o, none⟩) n cap] w fun e w' => e = .returned (.tuple #[.string ⟨(if printsE xs t then textE t else []).toArray⟩, .int .i64 (if printsE xs t then 0 else 1)]) ∧ Below w.heap.size w w' := by
 have hsz := hp.2.2.1
 have hn := hp.2.2.2.1
 have tp := t.size_pos
 obtain ⟨k, rfl⟩ : ∃ k, n = k + 1 := ⟨n - 1, by omega⟩
 have hnodes : ∀ w', NodesAt w' b o xs → Nodes w' (some ⟨b, o, none⟩) (k + 1) xs := fun w' h => ⟨hlen, by omega, fun _ => ⟨b, o, rfl⟩, fun _ b' o' e => by
  simp only [Option.some.injEq, Addr.mk.injEq] at e
  obtain ⟨rfl, rfl, _⟩ := e
  exact h, hfit⟩
 have HM := Lib.hid (may_n (some ⟨b, o, none⟩) (k + 1) cap xs true ⟨fun _ => ⟨t, hp⟩, fun _ => rfl⟩ w (hnodes w hx))
 have HT := Lib.hid fun w f x => etextof_all b o (k + 1) cap xs hlen (by omega) hfit t hp.1 0 k w hp.2.1 (by omega) (by omega) f x
 have htl := textE_len t hp.1
 have HPS := Lib.hid fun w f => eparse_c (textE t) (by omega) w f
 have HE := Lib.hid fun p n c w (hn : n ≤ 1000) h h' => equal_c p (some ⟨b, o, none⟩) n (k + 1) c cap (parsedE (textE t)) xs hn w h h'
 have HF := Lib.hid hw
 have HX := Lib.hid hx
 have HN := Lib.hid hnodes
 have hpp : printsE xs t = decide (parsedE (textE t) = xs) := rfl
 rw [← hpp] at HE
 generalize printsE xs t = r at *
 generalize htt : textE t = s at *
 clear hpp htt hp hsz hfit hnodes hx hw
 go_enter Tryz.func19, Tryz.ntmps19
 go_wp2_with fail
 refine wp_scope_fwd 0 rfl ?_
 go_wp2_with fail
 refine HM.out.mono ?_
 rintro e w1 ⟨rfl, hB1⟩
 have hx1 := HX.out.below hB1 HX.out.lt
 have hf1 := HF.out.below hB1
 go_wp2_with fail
 refine (HT.out _ hf1 hx1).mono ?_
 rintro e w2 ⟨rfl, hB2⟩
 have hx2 := hx1.below hB2 hx1.lt
 have hf2 := hf1.below hB2
 have hb2 := hB1.trans (hB2.mono hB1.size)
 clear hx1 hf1 hB1 hB2 HM HT
 go_wp2_with fail
 refine (HPS.out _ hf2).mono ?_
 rintro e w3 ⟨hout, hB3⟩
 obtain ⟨p, n, c, a, z, hpn⟩ := eout_nodes (w := w2) hout
 obtain ⟨rfl, hxn, hn121, _, _⟩ := hpn
 have hx3 := hx2.below hB3 hx2.lt
 have hb3 := hb2.trans (hB3.mono hb2.size)
 have HE3 := Lib.hid (HE.out p n c w3 (by omega) hxn (HN.out _ hx3))
 clear hout hB3 hx2 hf2 hb2 HPS HE hxn HN HX HF
 go_wp2_with fail
 refine HE3.out.mono ?_
 rintro e w4 ⟨rfl, hB4⟩
 have hb4 := hb3.trans (hB4.mono hb3.size)
 clear HE3 hB4 hb3
 cases r with
 | true =>
  go_wp2
  rw [jump_ret]
  refine bodyPost_ret (v := .tuple #[.string ⟨s.toArray⟩, .int .i64 0]) (by simp [results, Tryz.results19, go_sem]) rfl ?_
  exact ⟨rfl, hb4⟩
 | false =>
  go_wp2
  go_step3
  refine ⟨rfl, ?_⟩
  change Code.wp _ _ _ _ _
  go_wp2
  rw [Exit.noGoto_ret]
  refine bodyPost_ret (v := .tuple #[.string ⟨#[]⟩, .int .i64 1]) (by simp [results, Tryz.results19, go_sem]) rfl ?_
  exact ⟨rfl, hb4⟩
theorem prints_ok {s : List UInt8} {l : List Nd} {t : T} (h : EOk s l t) : printsE l t = true := by
 unfold printsE parsedE
 rw [h.back, decide_eq_true_iff]
end Go.Proofs.YtdjcgjkbecncaaaGreatDoor
namespace Go.Proofs.YtdjcgjkbecncaaaGreatDoor
open Go.RowKit Go.Lib
def sE : List UInt8 := [94, 40, 97, 124, 98, 43, 41, 123, 50, 44, 51, 125, 36, 124, 99, 63]
def sE2 : List UInt8 := [97, 40, 98]
def ndA : Nd := ⟨1, 0, 8589934592, 0, 0, 0, 0, 0, 0, 0⟩
def ndB : Nd := ⟨1, 0, 17179869184, 0, 0, 0, 0, 0, 0, 0⟩
def ndC : Nd := ⟨1, 0, 34359738368, 0, 0, 0, 0, 0, 0, 0⟩
def tE : T := .two 5 (.two 4 (.leaf (kindNd 2)) (.two 4 (.times 2 3 (.group 1 (.two 5 (.leaf ndA) (.times 1 (-1) (.leaf ndB))))) (.leaf (kindNd 3)))) (.times 0 1 (.leaf ndC))
def xE : List Nd := tE.nodes 0
theorem parsedE_E : parsedE sE = xE := by decide +kernel
def ereE (s : List UInt8) : Option Er := match ereP s with
 | .error e => some e
 | .ok _ => none
theorem ereP_E2 : ereP sE2 = .error (41, 1) := by
 have h : ereE sE2 = some (41, 1) := by decide +kernel
 unfold ereE at h
 split at h
 ·rename_i e he
  cases h; exact he
 ·cases h
theorem ereP_E : ereP sE = .ok xE := by
 have := parsedE_E
 unfold parsedE at this
 split at this
 ·rename_i l hl
  rw [hl, this]
 ·have h2 : xE.length = 0 := by rw [← this]; rfl
  exact absurd h2 (by decide)
theorem can_E : Can5 2 tE := by
 have la : Can5 0 (.leaf ndA) := ⟨by decide +kernel, fits_of (by decide) (by decide) (by decide) (by decide) (by decide) (by decide) (by decide) (by decide) (by decide) (by decide), .inl rfl⟩
 have lb : Can5 0 (.leaf ndB) := ⟨by decide +kernel, fits_of (by decide) (by decide) (by decide) (by decide) (by decide) (by decide) (by decide) (by decide) (by decide) (by decide), .inl rfl⟩
 have lc : Can5 0 (.leaf ndC) := ⟨by decide +kernel, fits_of (by decide) (by decide) (by decide) (by decide) (by decide) (by decide) (by decide) (by decide) (by decide) (by decide), .inl rfl⟩
 have l2 : Can5 0 (.leaf (kindNd 2)) := ⟨by decide, bsmall_fits (by decide) (by decide) (by decide) (by decide) (by decide) (by decide), .inr (.inl rfl)⟩
 have l3 : Can5 0 (.leaf (kindNd 3)) := ⟨by decide, bsmall_fits (by decide) (by decide) (by decide) (by decide) (by decide) (by decide), .inr (.inr rfl)⟩
 have tb : Can5 1 (.times 1 (-1) (.leaf ndB)) := ⟨by decide, by decide, lb⟩
 have tc : Can5 1 (.times 0 1 (.leaf ndC)) := ⟨by decide, by decide, lc⟩
 have gr : Can5 0 (.times 2 3 (.group 1 (.two 5 (.leaf ndA) (.times 1 (-1) (.leaf ndB))))) := ⟨by decide, rfl, by decide, .inl ⟨rfl, rfl, can_up la (by omega) (by omega), can_up tb (by omega) (by omega)⟩⟩
 exact .inl ⟨rfl, rfl, .inr ⟨rfl, by omega, l2, .inr ⟨rfl, by omega, gr, can_up l3 (by omega) (by omega)⟩⟩, can_up tc (by omega) (by omega)⟩
theorem num_E : NumOk tE 0 := ⟨⟨trivial, ⟨rfl, trivial, trivial⟩, trivial⟩, trivial⟩
theorem pat_E : IsPat xE tE := can_pat can_E (by decide) num_E
theorem fits_E : ∀ (i : Nat) (x : Nd), xE[i]? = some x → x.Fits := fun i x hx => can_fits tE 2 can_E 0 (by decide) x (List.mem_of_getElem? hx)
theorem showE_A : showE ndA.set = [97] := by decide +kernel
theorem showE_B : showE ndB.set = [98] := by decide +kernel
theorem showE_C : showE ndC.set = [99] := by decide +kernel
theorem itoa_dig1 (n : Nat) (h : n < 10) : itoa (n : Int) = dig3 n := itoa_nat n (by omega)
theorem times_23 : timesX 2 3 = [123, 50, 44, 51, 125] := by
 have e2 : itoa 2 = [50] := by rw [show (2 : Int) = ((2 : Nat) : Int) from rfl, itoa_dig1 2 (by omega)]; decide +kernel
 have e3 : itoa 3 = [51] := by rw [show (3 : Int) = ((3 : Nat) : Int) from rfl, itoa_dig1 3 (by omega)]; decide +kernel
 unfold timesX numT
 rw [if_neg (by omega), if_neg (by omega), if_neg (by omega), if_neg (by omega), if_neg (by omega), e2, e3]
 rfl
theorem text_E : textE tE = sE := by
 have ka : textE (.leaf ndA) = [97] := by
  unfold textE
  rw [if_pos (show ndA.kind = 1 from rfl)]
  exact showE_A
 have kb : textE (.leaf ndB) = [98] := by
  unfold textE
  rw [if_pos (show ndB.kind = 1 from rfl)]
  exact showE_B
 have kc : textE (.leaf ndC) = [99] := by
  unfold textE
  rw [if_pos (show ndC.kind = 1 from rfl)]
  exact showE_C
 have k2 : textE (.leaf (kindNd 2)) = [94] := rfl
 have k3 : textE (.leaf (kindNd 3)) = [36] := rfl
 show (textE (.leaf (kindNd 2)) ++ ((([40] ++ (textE (.leaf ndA) ++ [124] ++ (textE (.leaf ndB) ++ timesX 1 (-1))) ++ [41]) ++ timesX 2 3) ++ textE (.leaf (kindNd 3)))) ++ [124] ++ (textE (.leaf ndC) ++ timesX 0 1) = sE
 rw [ka, kb, kc, k2, k3, times_23]
 rfl
theorem prints_E : printsE xE tE = true := by
 unfold printsE
 rw [text_E, parsedE_E, decide_eq_true_iff]
theorem gcnt_E : gcnt xE 13 = 1 := by decide +kernel
theorem eparseB (w : World) (hw : Fit5 w) :
  Calls Tryz.prog 13 #[.string ⟨#[94, 40, 97, 124, 98, 43, 41, 123, 50, 44, 51, 125, 36, 124, 99, 63]⟩] w fun e w' => (∃ b o cap, e = .returned (.tuple #[.slice (some ⟨b, o, none⟩) 13 cap, .int .i64 0, .int .i64 0]) ∧ NodesAt w' b o xE) ∧ Below w.heap.size w w' := by
 refine (eparse_c sE (by decide) w hw).mono ?_
 rintro e w' ⟨hout, hB⟩
 refine ⟨?_, hB⟩
 obtain ⟨p, n, cap, a, z, he, hx, hn, hok, her⟩ := eout_nodes (w := w) hout
 obtain ⟨rfl, rfl⟩ := hok _ ereP_E
 rw [parsedE_E] at hx
 obtain rfl : 13 = n := hx.len
 obtain ⟨b, o, rfl⟩ := hx.ptr (by omega)
 exact ⟨b, o, cap, he, hx.at' (by omega) b o rfl⟩
theorem eparseC (w : World) (hw : Fit5 w) :
  Calls Tryz.prog 13 #[.string ⟨#[97, 40, 98]⟩] w fun e w' => e = .returned (.tuple #[.slice none 0 0, .int .i64 1, .int .i64 41]) ∧ Below w.heap.size w w' := by
 refine (eparse_c sE2 (by decide) w hw).mono ?_
 rintro e w' ⟨hout, hB⟩
 unfold EOut at hout
 rw [ereP_E2] at hout
 exact ⟨hout, hB⟩
theorem eprintB (b o cap : Nat) (w : World) (hw : Fit5 w) (hx : NodesAt w b o xE) :
  Calls Tryz.prog 19 #[.slice (some ⟨b, o, none⟩) 13 cap] w fun e w' => e = .returned (.tuple #[.string ⟨#[94, 40, 97, 124, 98, 43, 41, 123, 50, 44, 51, 125, 36, 124, 99, 63]⟩, .int .i64 0]) ∧ Below w.heap.size w w' := by
 have h := eprint_in b o 13 cap xE tE pat_E rfl fits_E w hw hx
 rw [prints_E, if_pos rfl, if_pos rfl, text_E] at h
 exact h
theorem shown5_c (w : World) (hw : Fit5 w) : Calls Tryz.prog 12 #[] w fun e w' => e = .returned (.bool true) ∧ Below w.heap.size w w' := by
 have HP := Lib.hid (eparseB w hw)
 have HW := Lib.hid hw
 clear hw
 go_enter Tryz.func12, Tryz.ntmps12
 go_wp2_with fail
 refine HP.out.mono ?_
 rintro e w1 ⟨⟨b, o, cap, rfl, hx1⟩, hB1⟩
 have hf1 := HW.out.below hB1
 have HPR := Lib.hid (eprintB b o cap w1 hf1 hx1)
 clear HP HW
 go_wp2_with fail
 refine HPR.out.mono ?_
 rintro e w2 ⟨rfl, hB2⟩
 have hf2 := hf1.below hB2
 have hx2 := hx1.below hB2 hx1.lt
 have b2 := hB1.trans (hB2.mono hB1.size)
 have HPC := Lib.hid (eparseC w2 hf2)
 clear HPR hf1 hx1 hB1 hB2
 go_wp2_with fail
 refine HPC.out.mono ?_
 rintro e w3 ⟨rfl, hB3⟩
 have hf3 := hf2.below hB3
 have hx3 := hx2.below hB3 hx2.lt
 have b3 := b2.trans (hB3.mono b2.size)
 have HG := Lib.hid fun w hx => groups_in b o 13 cap xE rfl (by omega) (by omega) fits_E ⟨tE, pat_E⟩ w hx
 rw [gcnt_E] at HG
 clear HPC hf2 hx2 b2 hB3
 go_wp2_with fail
 refine (HG.out _ hx3).mono ?_
 rintro e w4 ⟨rfl, hB4⟩
 have b4 := b3.trans (hB4.mono b3.size)
 clear hB4 HG
 go_wp2
 go_ret
 exact ⟨rfl, b4⟩
end Go.Proofs.YtdjcgjkbecncaaaGreatDoor
namespace Go.Proofs.YtdjcgjkbecncaaaGreatDoor
open Go.RowKit Go.Lib
structure Row15 (w : World) (xs : List Nd) (b o n cap : Nat) : Prop where
 x : NodesAt w b o xs
 len : xs.length = n
 pos : 1 ≤ n
 n : n ≤ 121
theorem Row15.below {w w' : World} {xs : List Nd} {b o n cap : Nat} (h : Row15 w xs b o n cap) (hB : Below w.heap.size w w') : Row15 w' xs b o n cap := ⟨h.x.below hB h.x.lt, h.len, h.pos, h.n⟩
theorem eparse_row (s : List UInt8) (hs : s.length ≤ 99990) (l : List Nd) (hq : ereP s = .ok l) (t : T) {s0 : List UInt8} (ht : EOk s0 l t) (w : World) (hw : Fit5 w) :
  Calls Tryz.prog 13 #[.string ⟨s.toArray⟩] w fun e w' => (∃ b o n cap, e = .returned (.tuple #[.slice (some ⟨b, o, none⟩) n cap, .int .i64 0, .int .i64 0]) ∧ Row15 w' l b o n cap) ∧ Below w.heap.size w w' := by
 refine (eparse_c s hs w hw).mono ?_
 rintro e w' ⟨hout, hB⟩
 refine ⟨?_, hB⟩
 obtain ⟨p, n, cap, a, z, he, hx, hn, hok, her⟩ := eout_nodes (w := w) hout
 obtain ⟨rfl, rfl⟩ := hok l hq
 have hp : parsedE s = l := by unfold parsedE; rw [hq]
 rw [hp] at hx
 have hl := hx.len
 have h1 : 1 ≤ n := by have := ht.len; have := t.size_pos; omega
 obtain ⟨b, o, rfl⟩ := hx.ptr h1
 exact ⟨b, o, n, cap, he, hx.at' h1 b o rfl, hl, h1, by omega⟩
theorem eparse_er (s : List UInt8) (hs : s.length ≤ 99990) (z : Int) (a : Nat) (h : ereP s = .error (z, a)) (w : World) (hw : Fit5 w) :
  Calls Tryz.prog 13 #[.string ⟨s.toArray⟩] w fun e w' => e = .returned (.tuple #[.slice none 0 0, .int .i64 (a : Int), .int .i64 z]) ∧ Below w.heap.size w w' := by
 refine (eparse_c s hs w hw).mono ?_
 rintro e w' ⟨hout, hB⟩
 unfold EOut at hout
 rw [h] at hout
 exact ⟨hout, hB⟩
theorem eprint_row {s : List UInt8} {xs : List Nd} {t : T} (ht : EOk s xs t) {b o n cap : Nat} (w : World) (hw : Fit5 w) (h : Row15 w xs b o n cap) :
  Calls Tryz.prog 19 #[.slice (some ⟨b, o, none⟩) n cap] w fun e w' => e = .returned (.tuple #[.string ⟨(textE t).toArray⟩, .int .i64 0]) ∧ Below w.heap.size w w' := by
 have h1 := eprint_in b o n cap xs t ht.pat h.len (fun i x hx => ht.fits x (List.mem_of_getElem? hx)) w hw h.x
 rw [prints_ok ht, if_pos rfl, if_pos rfl] at h1
 exact h1
theorem etext_row {s : List UInt8} {xs : List Nd} {t : T} (ht : EOk s xs t) {b o n cap : Nat} (w : World) (hw : Fit5 w) (h : Row15 w xs b o n cap) :
  Calls Tryz.prog 21 #[.slice (some ⟨b, o, none⟩) n cap] w fun e w' => e = .returned (.string ⟨(text t).toArray⟩) ∧ Below w.heap.size w w' :=
 text_in b o n cap xs h.len h.pos (by have := ht.len; have := ht.size; have := h.len; omega) (fun i x hx => ht.fits x (List.mem_of_getElem? hx)) t ht.pat w hw.f h.x
end Go.Proofs.YtdjcgjkbecncaaaGreatDoor
