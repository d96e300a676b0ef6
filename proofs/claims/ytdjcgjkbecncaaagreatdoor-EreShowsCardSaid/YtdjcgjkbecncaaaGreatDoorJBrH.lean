/- A part of a list: the walk. -/
import Derived.Test.YtdjcgjkbecncaaaGreatDoorJBrF
import Derived.Test.YtdjcgjkbecncaaaGreatDoorJBrC
import Derived.Test.YtdjcgjkbecncaaaGreatDoorJSetQ
import Derived.Test.YtdjcgjkbecncaaaGreatDoorJRxB
import Derived.Test.YtdjcgjkbecncaaaGreatDoorJRxTd
set_option linter.unusedVariables false
set_option linter.unusedSimpArgs false
set_option maxRecDepth 100000
set_option maxHeartbeats 40000000
namespace Go.Proofs.YtdjcgjkbecncaaaGreatDoor
open Go.RowKit
section
variable {w : World} {b : Nat} {T : TypeId} {cs : Array Value} {s : List UInt8} {p : Nat}
theorem Mv.from {w0 w' : World} {k : Nat} (b0 : Below w.heap.size w w0) (m : Mv w0 b T cs s k w') : Mv w b T cs s k w' := ⟨m.x, (grownB b0).trans m.g⟩
theorem Four.mv {w0 w' : World} {g : Nat} {t : TypeId} {v0 v1 v2 v3 : Value} (h : Four w0 g t v0 v1 v2 v3) (hg : w0.grownBy w' (some b)) (hne : g ≠ b) : Four w' g t v0 v1 v2 v3 :=
 ⟨(hg.block g h.lt (fun e => hne (Option.some.inj e))).trans h.heap⟩
theorem Mv.set4 {w1 : World} {k g : Nat} (h : Mv w b T cs s k w1) (hg : w.heap.size ≤ g) (hne : g ≠ b) (F : Nat → Bool) : Mv w b T cs s k ((((w1.setCell ⟨g, 0, none⟩ (.int .u64 (wd F 0))).setCell ⟨g, 1, none⟩ (.int .u64 (wd F 1))).setCell ⟨g, 2, none⟩ (.int .u64 (wd F 2))).setCell ⟨g, 3, none⟩ (.int .u64 (wd F 3))) := h.below4 hg hne F
theorem part_c (first : Bool) (w : World) (h : TX w b T cs s p) (hm : MaxL w) (hb : b ≠ 1) :
  Calls Tryz.prog 144 #[.pointer (some ⟨b, 0, none⟩), .bool first] w (Outc w b T cs s sv (partP s p first)) := by
 have hlt := h.lt
 have hne : w.heap.size ≠ b := by omega
 obtain ⟨w0, hw0⟩ : ∃ w0, w0 = w.alloc (.cells #[.int .u64 0, .int .u64 0, .int .u64 0, .int .u64 0] 24) := ⟨_, rfl⟩
 have r0 := Four.new w 24 (.int .u64 0) (.int .u64 0) (.int .u64 0) (.int .u64 0)
 have b0 : Below w.heap.size w (w.alloc (.cells #[.int .u64 0, .int .u64 0, .int .u64 0, .int .u64 0] 24)) := (Below.refl _ w).alloc (Nat.le_refl _) _
 rw [← hw0] at r0 b0
 have x0 := h.below b0
 have mx0 := hm.below b0
 have H1 := Lib.hid (skip_c [91, 58] (by simp) w0 x0)
 have H2 := Lib.hid fun w1 (m : Mv w0 b T cs s p w1) => skip_c [91, 61] (by simp) w1 m.x
 have H3 := Lib.hid fun w1 (m : Mv w0 b T cs s p w1) => ahead_c [45] w1 m.x
 have HA5 := Lib.hid fun k w1 (m : Mv w0 b T cs s k w1) => ahead_c [45, 93] w1 m.x
 have HS := Lib.hid fun k w1 (m : Mv w0 b T cs s k w1) => skip_c [45] (by simp) w1 m.x
 have HO := Lib.hid fun k w1 (m : Mv w0 b T cs s k w1) => one_c w1 m.x
 have HCl := Lib.hid fun k w1 (m : Mv w0 b T cs s k w1) => class_c w1 m.x (mx0.grown m.g hb)
 have HCd := Lib.hid fun k w1 (m : Mv w0 b T cs s k w1) => closed_c [61, 93] (by simp) w1 m.x
 have HZ := Lib.hid fun w => noset_c w
 have B0 := Lib.hid b0
 clear h hm x0 mx0 b0
 go_enter Tryz.func144, Tryz.ntmps144
 go_wp2_with fail
 rw [← hw0]
 clear hw0
 refine H1.out.mono ?_
 rintro e w1 ⟨rfl, hm1⟩
 clear H1
 cases a1 : ah s p [91, 58] with
 | true =>
  rw [sk_yes a1] at hm1
  go_wp2_with fail
  refine (HCl.out _ w1 hm1).mono ?_
  intro e w2 hout
  have hout := Outc.trans hm1 hout
  clear hm1
  cases hq : clasP s (p + 2) with
  | none =>
   change Outc w0 b T cs s sv (clasP s (p + 2)) e w2 at hout
   rw [hq] at hout
   obtain ⟨rfl, hg⟩ := hout
   unfold Pan
   go_wp2
   exact ⟨rfl, Outc.no (by unfold partP; rw [if_pos a1]; exact hq) ((grownB B0.out).trans hg)⟩
  | some q =>
   obtain ⟨F, k⟩ := q
   change Outc w0 b T cs s sv (clasP s (p + 2)) e w2 at hout
   rw [hq] at hout
   obtain ⟨rfl, hm2⟩ := hout
   have r := r0.mv hm2.g hne
   have rc0 := r.c0
   have rc1 := r.c1
   have rc2 := r.c2
   have rc3 := r.c3
   have rf0 := r.fz 0
   have rf1 := r.fz 1
   have rf2 := r.fz 2
   have rf3 := r.fz 3
   have HM := Lib.hid (((Mv.from B0.out hm2).set4 (g := w.heap.size) (w := w) (Nat.le_refl _) hne F))
   have HR := Lib.hid r
   clear r
   simp only [sv]
   go_wp2
   have q := FourS.set HR.out F
   have qc0 := q.c0
   have qc1 := q.c1
   have qc2 := q.c2
   have qc3 := q.c3
   refine bodyPost_ret (v := sv F) (by simp [results, Tryz.results144, go_sem, qc0, qc1, qc2, qc3, sv]) rfl ?_
   exact Outc.yes (by unfold partP; rw [if_pos a1]; exact hq) HM.out
 | false =>
  rw [sk_no a1] at hm1
  go_wp2_with fail
  refine (H2.out w1 hm1).mono ?_
  rintro e w1b ⟨rfl, hm2'⟩
  have hm2 := hm1.trans hm2'
  clear hm1 hm2' H2
  cases a2 : ah s p [91, 61] with
  | true =>
   rw [sk_yes a2] at hm2
   go_wp2_with fail
   refine (HCd.out _ w1b hm2).mono ?_
   intro e w2 hout
   have hout := Outc.trans hm2 hout
   clear hm2
   change Outc w0 b T cs s _ (clsdP s (p + 2) [61, 93]) e w2 at hout
   cases hq : clsdP s (p + 2) [61, 93] with
   | none =>
    rw [hq] at hout
    obtain ⟨rfl, hg⟩ := hout
    unfold Pan
    go_wp2
    exact ⟨rfl, Outc.no (by unfold partP; rw [if_neg (by rw [a1]; decide), if_pos a2, hq]; rfl) ((grownB B0.out).trans hg)⟩
   | some q =>
    obtain ⟨c, k⟩ := q
    rw [hq] at hout
    obtain ⟨rfl, hm3⟩ := hout
    obtain ⟨F, hF⟩ : ∃ F, F = rg c.toNat c.toNat := ⟨_, rfl⟩
    have hJ := just_c c w2
    rw [← hF] at hJ
    have HF := Lib.hid hF
    clear hF
    go_wp2_with fail
    refine hJ.mono ?_
    rintro e w9 ⟨rfl, hB9⟩
    have hm9 := hm3.below hB9
    clear hJ hB9
    have r := r0.mv hm9.g hne
    have rc0 := r.c0
    have rc1 := r.c1
    have rc2 := r.c2
    have rc3 := r.c3
    have rf0 := r.fz 0
    have rf1 := r.fz 1
    have rf2 := r.fz 2
    have rf3 := r.fz 3
    have HM := Lib.hid (((Mv.from B0.out hm9).set4 (g := w.heap.size) (w := w) (Nat.le_refl _) hne F))
    have HR := Lib.hid r
    clear r
    simp only [sv]
    go_wp2
    have q := FourS.set HR.out F
    have qc0 := q.c0
    have qc1 := q.c1
    have qc2 := q.c2
    have qc3 := q.c3
    refine bodyPost_ret (v := sv F) (by simp [results, Tryz.results144, go_sem, qc0, qc1, qc2, qc3, sv]) rfl ?_
    exact Outc.yes (by unfold partP; rw [if_neg (by rw [a1]; decide), if_pos a2, hq, HF.out]; rfl) HM.out
  | false =>
   rw [sk_no a2] at hm2
   go_wp2_with fail
   refine (H3.out w1b hm2).mono ?_
   rintro e w1c ⟨rfl, hB3⟩
   have hM := hm2.below hB3
   clear hm2 hB3 H3
   cases a3 : ah s p [45] with
   | false =>
    have HD : Hid (partP s p first = tailP s p) := Lib.hid (by unfold partP; rw [if_neg (by rw [a1]; decide), if_neg (by rw [a2]; decide), if_neg (by rw [a3]; simp)])
    go_wp2_with fail
    refine (HO.out p _ hM).mono ?_
    intro e w2 hout
    have hout := Outc.trans hM hout
    clear hM
    cases hq : oneP s p with
    | none =>
     rw [hq] at hout
     obtain ⟨rfl, hg⟩ := hout
     unfold Pan
     go_wp2
     exact ⟨rfl, Outc.no (by rw [HD.out]; unfold tailP; rw [hq]) ((grownB B0.out).trans hg)⟩
    | some q =>
     obtain ⟨a, k⟩ := q
     rw [hq] at hout
     obtain ⟨rfl, hm⟩ := hout
     go_wp2_with fail
     refine (HA5.out k w2 hm).mono ?_
     rintro e w3 ⟨rfl, hB3⟩
     have hm3 := hm.below hB3
     clear hm hB3
     cases hk1 : ah s k [45, 93] with
     | true =>
      have hT : tailP s p = some (rg a.toNat a.toNat, k) := by unfold tailP; rw [hq]; simp only; rw [hk1]; rfl
      obtain ⟨F, hF⟩ : ∃ F, F = rg a.toNat a.toNat := ⟨_, rfl⟩
      have hJ := just_c a w3
      rw [← hF] at hJ
      have HF := Lib.hid hF
      clear hF
      go_wp2_with fail
      refine hJ.mono ?_
      rintro e w9 ⟨rfl, hB9⟩
      have hm9 := hm3.below hB9
      clear hJ hB9
      have r := r0.mv hm9.g hne
      have rc0 := r.c0
      have rc1 := r.c1
      have rc2 := r.c2
      have rc3 := r.c3
      have rf0 := r.fz 0
      have rf1 := r.fz 1
      have rf2 := r.fz 2
      have rf3 := r.fz 3
      have HM := Lib.hid (((Mv.from B0.out hm9).set4 (g := w.heap.size) (w := w) (Nat.le_refl _) hne F))
      have HR := Lib.hid r
      clear r
      simp only [sv]
      go_wp2
      have q := FourS.set HR.out F
      have qc0 := q.c0
      have qc1 := q.c1
      have qc2 := q.c2
      have qc3 := q.c3
      refine bodyPost_ret (v := sv F) (by simp [results, Tryz.results144, go_sem, qc0, qc1, qc2, qc3, sv]) rfl ?_
      exact Outc.yes (by rw [HD.out, hT, HF.out]) HM.out
     | false =>
      go_wp2_with fail
      refine (HS.out k w3 hm3).mono ?_
      rintro e w4 ⟨rfl, hm4'⟩
      have hm4 := hm3.trans hm4'
      clear hm3 hm4'
      cases hk2 : ah s k [45] with
      | false =>
       rw [sk_no hk2] at hm4
       have hT : tailP s p = some (rg a.toNat a.toNat, k) := by unfold tailP; rw [hq]; simp only; rw [hk1, hk2]; rfl
       obtain ⟨F, hF⟩ : ∃ F, F = rg a.toNat a.toNat := ⟨_, rfl⟩
       have hJ := just_c a w4
       rw [← hF] at hJ
       have HF := Lib.hid hF
       clear hF
       go_wp2_with fail
       refine hJ.mono ?_
       rintro e w9 ⟨rfl, hB9⟩
       have hm9 := hm4.below hB9
       clear hJ hB9
       have r := r0.mv hm9.g hne
       have rc0 := r.c0
       have rc1 := r.c1
       have rc2 := r.c2
       have rc3 := r.c3
       have rf0 := r.fz 0
       have rf1 := r.fz 1
       have rf2 := r.fz 2
       have rf3 := r.fz 3
       have HM := Lib.hid (((Mv.from B0.out hm9).set4 (g := w.heap.size) (w := w) (Nat.le_refl _) hne F))
       have HR := Lib.hid r
       clear r
       simp only [sv]
       go_wp2
       have q := FourS.set HR.out F
       have qc0 := q.c0
       have qc1 := q.c1
       have qc2 := q.c2
       have qc3 := q.c3
       refine bodyPost_ret (v := sv F) (by simp [results, Tryz.results144, go_sem, qc0, qc1, qc2, qc3, sv]) rfl ?_
       exact Outc.yes (by rw [HD.out, hT, HF.out]) HM.out
      | true =>
       rw [sk_yes hk2] at hm4
       go_wp2_with fail
       refine (HO.out (k + 1) w4 hm4).mono ?_
       intro e w5 hout
       have hout := Outc.trans hm4 hout
       clear hm4
       cases hq2 : oneP s (k + 1) with
       | none =>
        rw [hq2] at hout
        obtain ⟨rfl, hg⟩ := hout
        unfold Pan
        go_wp2
        exact ⟨rfl, Outc.no (by rw [HD.out]; unfold tailP; rw [hq]; simp only; rw [hk1, hk2]; simp [hq2]) ((grownB B0.out).trans hg)⟩
       | some q =>
        obtain ⟨z, m⟩ := q
        rw [hq2] at hout
        obtain ⟨rfl, hm5⟩ := hout
        by_cases hz : z.toNat < a.toNat
        ·have hgt : ((z.toNat : Int) < (a.toNat : Int)) = True := by simp; omega
         go_wp2_with fail
         refine (HZ.out _).mono ?_
         rintro e w6 ⟨rfl, rfl⟩
         unfold Pan
         go_wp2
         exact ⟨rfl, Outc.no (by rw [HD.out]; unfold tailP; rw [hq]; simp only; rw [hk1, hk2]; simp [hq2, hz]) ((grownB B0.out).trans hm5.g)⟩
        ·have hgt : ((z.toNat : Int) < (a.toNat : Int)) = False := by simp; omega
         obtain ⟨F, hF⟩ : ∃ F, F = rg a.toNat z.toNat := ⟨_, rfl⟩
         have hT : Hid (tailP s p = some (F, m)) := Lib.hid (by unfold tailP; rw [hq]; simp only; rw [hk1, hk2]; simp [hq2, hz, hF])
         have hJ := rangeTo a.toNat z.toNat (by have := a.toNat_lt; omega) (by have := z.toNat_lt; omega) w5
         rw [← hF] at hJ
         clear hF
         go_wp2_with fail
         refine hJ.mono ?_
         rintro e w9 ⟨rfl, hB9⟩
         have hm9 := hm5.below hB9
         clear hJ hB9
         have r := r0.mv hm9.g hne
         have rc0 := r.c0
         have rc1 := r.c1
         have rc2 := r.c2
         have rc3 := r.c3
         have rf0 := r.fz 0
         have rf1 := r.fz 1
         have rf2 := r.fz 2
         have rf3 := r.fz 3
         have HM := Lib.hid (((Mv.from B0.out hm9).set4 (g := w.heap.size) (w := w) (Nat.le_refl _) hne F))
         have HR := Lib.hid r
         clear r
         simp only [sv]
         go_wp2
         have q := FourS.set HR.out F
         have qc0 := q.c0
         have qc1 := q.c1
         have qc2 := q.c2
         have qc3 := q.c3
         refine bodyPost_ret (v := sv F) (by simp [results, Tryz.results144, go_sem, qc0, qc1, qc2, qc3, sv]) rfl ?_
         exact Outc.yes (by rw [HD.out, hT.out]) HM.out
   | true =>
    cases first with
    | true =>
     have HD : Hid (partP s p true = tailP s p) := Lib.hid (by unfold partP; rw [if_neg (by rw [a1]; decide), if_neg (by rw [a2]; decide), if_neg (by rw [a3]; simp)])
     go_wp2_with fail
     refine (HO.out p _ hM).mono ?_
     intro e w2 hout
     have hout := Outc.trans hM hout
     clear hM
     cases hq : oneP s p with
     | none =>
      rw [hq] at hout
      obtain ⟨rfl, hg⟩ := hout
      unfold Pan
      go_wp2
      exact ⟨rfl, Outc.no (by rw [HD.out]; unfold tailP; rw [hq]) ((grownB B0.out).trans hg)⟩
     | some q =>
      obtain ⟨a, k⟩ := q
      rw [hq] at hout
      obtain ⟨rfl, hm⟩ := hout
      go_wp2_with fail
      refine (HA5.out k w2 hm).mono ?_
      rintro e w3 ⟨rfl, hB3⟩
      have hm3 := hm.below hB3
      clear hm hB3
      cases hk1 : ah s k [45, 93] with
      | true =>
       have hT : tailP s p = some (rg a.toNat a.toNat, k) := by unfold tailP; rw [hq]; simp only; rw [hk1]; rfl
       obtain ⟨F, hF⟩ : ∃ F, F = rg a.toNat a.toNat := ⟨_, rfl⟩
       have hJ := just_c a w3
       rw [← hF] at hJ
       have HF := Lib.hid hF
       clear hF
       go_wp2_with fail
       refine hJ.mono ?_
       rintro e w9 ⟨rfl, hB9⟩
       have hm9 := hm3.below hB9
       clear hJ hB9
       have r := r0.mv hm9.g hne
       have rc0 := r.c0
       have rc1 := r.c1
       have rc2 := r.c2
       have rc3 := r.c3
       have rf0 := r.fz 0
       have rf1 := r.fz 1
       have rf2 := r.fz 2
       have rf3 := r.fz 3
       have HM := Lib.hid (((Mv.from B0.out hm9).set4 (g := w.heap.size) (w := w) (Nat.le_refl _) hne F))
       have HR := Lib.hid r
       clear r
       simp only [sv]
       go_wp2
       have q := FourS.set HR.out F
       have qc0 := q.c0
       have qc1 := q.c1
       have qc2 := q.c2
       have qc3 := q.c3
       refine bodyPost_ret (v := sv F) (by simp [results, Tryz.results144, go_sem, qc0, qc1, qc2, qc3, sv]) rfl ?_
       exact Outc.yes (by rw [HD.out, hT, HF.out]) HM.out
      | false =>
       go_wp2_with fail
       refine (HS.out k w3 hm3).mono ?_
       rintro e w4 ⟨rfl, hm4'⟩
       have hm4 := hm3.trans hm4'
       clear hm3 hm4'
       cases hk2 : ah s k [45] with
       | false =>
        rw [sk_no hk2] at hm4
        have hT : tailP s p = some (rg a.toNat a.toNat, k) := by unfold tailP; rw [hq]; simp only; rw [hk1, hk2]; rfl
        obtain ⟨F, hF⟩ : ∃ F, F = rg a.toNat a.toNat := ⟨_, rfl⟩
        have hJ := just_c a w4
        rw [← hF] at hJ
        have HF := Lib.hid hF
        clear hF
        go_wp2_with fail
        refine hJ.mono ?_
        rintro e w9 ⟨rfl, hB9⟩
        have hm9 := hm4.below hB9
        clear hJ hB9
        have r := r0.mv hm9.g hne
        have rc0 := r.c0
        have rc1 := r.c1
        have rc2 := r.c2
        have rc3 := r.c3
        have rf0 := r.fz 0
        have rf1 := r.fz 1
        have rf2 := r.fz 2
        have rf3 := r.fz 3
        have HM := Lib.hid (((Mv.from B0.out hm9).set4 (g := w.heap.size) (w := w) (Nat.le_refl _) hne F))
        have HR := Lib.hid r
        clear r
        simp only [sv]
        go_wp2
        have q := FourS.set HR.out F
        have qc0 := q.c0
        have qc1 := q.c1
        have qc2 := q.c2
        have qc3 := q.c3
        refine bodyPost_ret (v := sv F) (by simp [results, Tryz.results144, go_sem, qc0, qc1, qc2, qc3, sv]) rfl ?_
        exact Outc.yes (by rw [HD.out, hT, HF.out]) HM.out
       | true =>
        rw [sk_yes hk2] at hm4
        go_wp2_with fail
        refine (HO.out (k + 1) w4 hm4).mono ?_
        intro e w5 hout
        have hout := Outc.trans hm4 hout
        clear hm4
        cases hq2 : oneP s (k + 1) with
        | none =>
         rw [hq2] at hout
         obtain ⟨rfl, hg⟩ := hout
         unfold Pan
         go_wp2
         exact ⟨rfl, Outc.no (by rw [HD.out]; unfold tailP; rw [hq]; simp only; rw [hk1, hk2]; simp [hq2]) ((grownB B0.out).trans hg)⟩
        | some q =>
         obtain ⟨z, m⟩ := q
         rw [hq2] at hout
         obtain ⟨rfl, hm5⟩ := hout
         by_cases hz : z.toNat < a.toNat
         ·have hgt : ((z.toNat : Int) < (a.toNat : Int)) = True := by simp; omega
          go_wp2_with fail
          refine (HZ.out _).mono ?_
          rintro e w6 ⟨rfl, rfl⟩
          unfold Pan
          go_wp2
          exact ⟨rfl, Outc.no (by rw [HD.out]; unfold tailP; rw [hq]; simp only; rw [hk1, hk2]; simp [hq2, hz]) ((grownB B0.out).trans hm5.g)⟩
         ·have hgt : ((z.toNat : Int) < (a.toNat : Int)) = False := by simp; omega
          obtain ⟨F, hF⟩ : ∃ F, F = rg a.toNat z.toNat := ⟨_, rfl⟩
          have hT : Hid (tailP s p = some (F, m)) := Lib.hid (by unfold tailP; rw [hq]; simp only; rw [hk1, hk2]; simp [hq2, hz, hF])
          have hJ := rangeTo a.toNat z.toNat (by have := a.toNat_lt; omega) (by have := z.toNat_lt; omega) w5
          rw [← hF] at hJ
          clear hF
          go_wp2_with fail
          refine hJ.mono ?_
          rintro e w9 ⟨rfl, hB9⟩
          have hm9 := hm5.below hB9
          clear hJ hB9
          have r := r0.mv hm9.g hne
          have rc0 := r.c0
          have rc1 := r.c1
          have rc2 := r.c2
          have rc3 := r.c3
          have rf0 := r.fz 0
          have rf1 := r.fz 1
          have rf2 := r.fz 2
          have rf3 := r.fz 3
          have HM := Lib.hid (((Mv.from B0.out hm9).set4 (g := w.heap.size) (w := w) (Nat.le_refl _) hne F))
          have HR := Lib.hid r
          clear r
          simp only [sv]
          go_wp2
          have q := FourS.set HR.out F
          have qc0 := q.c0
          have qc1 := q.c1
          have qc2 := q.c2
          have qc3 := q.c3
          refine bodyPost_ret (v := sv F) (by simp [results, Tryz.results144, go_sem, qc0, qc1, qc2, qc3, sv]) rfl ?_
          exact Outc.yes (by rw [HD.out, hT.out]) HM.out
    | false =>
     go_wp2_with fail
     refine (HA5.out p w1c hM).mono ?_
     rintro e w1d ⟨rfl, hB4⟩
     have hM := hM.below hB4
     clear hB4
     cases a5 : ah s p [45, 93] with
     | false =>
      go_wp2_with fail
      refine (HZ.out _).mono ?_
      rintro e w6 ⟨rfl, rfl⟩
      unfold Pan
      go_wp2
      exact ⟨rfl, Outc.no (by unfold partP; rw [if_neg (by rw [a1]; decide), if_neg (by rw [a2]; decide), if_pos (by rw [a3, a5]; rfl)]) ((grownB B0.out).trans hM.g)⟩
     | true =>
      have HD : Hid (partP s p false = tailP s p) := Lib.hid (by unfold partP; rw [if_neg (by rw [a1]; decide), if_neg (by rw [a2]; decide), if_neg (by rw [a3, a5]; simp)])
      go_wp2_with fail
      refine (HO.out p _ hM).mono ?_
      intro e w2 hout
      have hout := Outc.trans hM hout
      clear hM
      cases hq : oneP s p with
      | none =>
       rw [hq] at hout
       obtain ⟨rfl, hg⟩ := hout
       unfold Pan
       go_wp2
       exact ⟨rfl, Outc.no (by rw [HD.out]; unfold tailP; rw [hq]) ((grownB B0.out).trans hg)⟩
      | some q =>
       obtain ⟨a, k⟩ := q
       rw [hq] at hout
       obtain ⟨rfl, hm⟩ := hout
       go_wp2_with fail
       refine (HA5.out k w2 hm).mono ?_
       rintro e w3 ⟨rfl, hB3⟩
       have hm3 := hm.below hB3
       clear hm hB3
       cases hk1 : ah s k [45, 93] with
       | true =>
        have hT : tailP s p = some (rg a.toNat a.toNat, k) := by unfold tailP; rw [hq]; simp only; rw [hk1]; rfl
        obtain ⟨F, hF⟩ : ∃ F, F = rg a.toNat a.toNat := ⟨_, rfl⟩
        have hJ := just_c a w3
        rw [← hF] at hJ
        have HF := Lib.hid hF
        clear hF
        go_wp2_with fail
        refine hJ.mono ?_
        rintro e w9 ⟨rfl, hB9⟩
        have hm9 := hm3.below hB9
        clear hJ hB9
        have r := r0.mv hm9.g hne
        have rc0 := r.c0
        have rc1 := r.c1
        have rc2 := r.c2
        have rc3 := r.c3
        have rf0 := r.fz 0
        have rf1 := r.fz 1
        have rf2 := r.fz 2
        have rf3 := r.fz 3
        have HM := Lib.hid (((Mv.from B0.out hm9).set4 (g := w.heap.size) (w := w) (Nat.le_refl _) hne F))
        have HR := Lib.hid r
        clear r
        simp only [sv]
        go_wp2
        have q := FourS.set HR.out F
        have qc0 := q.c0
        have qc1 := q.c1
        have qc2 := q.c2
        have qc3 := q.c3
        refine bodyPost_ret (v := sv F) (by simp [results, Tryz.results144, go_sem, qc0, qc1, qc2, qc3, sv]) rfl ?_
        exact Outc.yes (by rw [HD.out, hT, HF.out]) HM.out
       | false =>
        go_wp2_with fail
        refine (HS.out k w3 hm3).mono ?_
        rintro e w4 ⟨rfl, hm4'⟩
        have hm4 := hm3.trans hm4'
        clear hm3 hm4'
        cases hk2 : ah s k [45] with
        | false =>
         rw [sk_no hk2] at hm4
         have hT : tailP s p = some (rg a.toNat a.toNat, k) := by unfold tailP; rw [hq]; simp only; rw [hk1, hk2]; rfl
         obtain ⟨F, hF⟩ : ∃ F, F = rg a.toNat a.toNat := ⟨_, rfl⟩
         have hJ := just_c a w4
         rw [← hF] at hJ
         have HF := Lib.hid hF
         clear hF
         go_wp2_with fail
         refine hJ.mono ?_
         rintro e w9 ⟨rfl, hB9⟩
         have hm9 := hm4.below hB9
         clear hJ hB9
         have r := r0.mv hm9.g hne
         have rc0 := r.c0
         have rc1 := r.c1
         have rc2 := r.c2
         have rc3 := r.c3
         have rf0 := r.fz 0
         have rf1 := r.fz 1
         have rf2 := r.fz 2
         have rf3 := r.fz 3
         have HM := Lib.hid (((Mv.from B0.out hm9).set4 (g := w.heap.size) (w := w) (Nat.le_refl _) hne F))
         have HR := Lib.hid r
         clear r
         simp only [sv]
         go_wp2
         have q := FourS.set HR.out F
         have qc0 := q.c0
         have qc1 := q.c1
         have qc2 := q.c2
         have qc3 := q.c3
         refine bodyPost_ret (v := sv F) (by simp [results, Tryz.results144, go_sem, qc0, qc1, qc2, qc3, sv]) rfl ?_
         exact Outc.yes (by rw [HD.out, hT, HF.out]) HM.out
        | true =>
         rw [sk_yes hk2] at hm4
         go_wp2_with fail
         refine (HO.out (k + 1) w4 hm4).mono ?_
         intro e w5 hout
         have hout := Outc.trans hm4 hout
         clear hm4
         cases hq2 : oneP s (k + 1) with
         | none =>
          rw [hq2] at hout
          obtain ⟨rfl, hg⟩ := hout
          unfold Pan
          go_wp2
          exact ⟨rfl, Outc.no (by rw [HD.out]; unfold tailP; rw [hq]; simp only; rw [hk1, hk2]; simp [hq2]) ((grownB B0.out).trans hg)⟩
         | some q =>
          obtain ⟨z, m⟩ := q
          rw [hq2] at hout
          obtain ⟨rfl, hm5⟩ := hout
          by_cases hz : z.toNat < a.toNat
          ·have hgt : ((z.toNat : Int) < (a.toNat : Int)) = True := by simp; omega
           go_wp2_with fail
           refine (HZ.out _).mono ?_
           rintro e w6 ⟨rfl, rfl⟩
           unfold Pan
           go_wp2
           exact ⟨rfl, Outc.no (by rw [HD.out]; unfold tailP; rw [hq]; simp only; rw [hk1, hk2]; simp [hq2, hz]) ((grownB B0.out).trans hm5.g)⟩
          ·have hgt : ((z.toNat : Int) < (a.toNat : Int)) = False := by simp; omega
           obtain ⟨F, hF⟩ : ∃ F, F = rg a.toNat z.toNat := ⟨_, rfl⟩
           have hT : Hid (tailP s p = some (F, m)) := Lib.hid (by unfold tailP; rw [hq]; simp only; rw [hk1, hk2]; simp [hq2, hz, hF])
           have hJ := rangeTo a.toNat z.toNat (by have := a.toNat_lt; omega) (by have := z.toNat_lt; omega) w5
           rw [← hF] at hJ
           clear hF
           go_wp2_with fail
           refine hJ.mono ?_
           rintro e w9 ⟨rfl, hB9⟩
           have hm9 := hm5.below hB9
           clear hJ hB9
           have r := r0.mv hm9.g hne
           have rc0 := r.c0
           have rc1 := r.c1
           have rc2 := r.c2
           have rc3 := r.c3
           have rf0 := r.fz 0
           have rf1 := r.fz 1
           have rf2 := r.fz 2
           have rf3 := r.fz 3
           have HM := Lib.hid (((Mv.from B0.out hm9).set4 (g := w.heap.size) (w := w) (Nat.le_refl _) hne F))
           have HR := Lib.hid r
           clear r
           simp only [sv]
           go_wp2
           have q := FourS.set HR.out F
           have qc0 := q.c0
           have qc1 := q.c1
           have qc2 := q.c2
           have qc3 := q.c3
           refine bodyPost_ret (v := sv F) (by simp [results, Tryz.results144, go_sem, qc0, qc1, qc2, qc3, sv]) rfl ?_
           exact Outc.yes (by rw [HD.out, hT.out]) HM.out
end
end Go.Proofs.YtdjcgjkbecncaaaGreatDoor
namespace Go.Proofs.YtdjcgjkbecncaaaGreatDoor
open Go.RowKit
section
variable {w : World} {b : Nat} {T : TypeId} {cs : Array Value} {s : List UInt8} {p : Nat}
def placeIn (b : Nat) (w : World) : Nat := match w.cell? ⟨b, 1, none⟩ with
 | some (.int _ z) => z.toNat
 | _ => 0
theorem Mv.place {w' : World} {k : Nat} (m : Mv w b T cs s k w') : placeIn b w' = k := by
 unfold placeIn
 rw [m.x.cell1]
 simp
theorem Mv.len {w' : World} {k : Nat} (m : Mv w b T cs s k w') : k ≤ s.length := m.x.p
structure LSt (w0 : World) (b : Nat) (T : TypeId) (cs : Array Value) (s : List UInt8) (g : Nat) (F : Nat → Bool) (k : Nat) (w' : World) : Prop where
 m : Mv w0 b T cs s k w'
 a : FourS w' g F
theorem LSt.drew {w0 w' : World} {g k : Nat} {F : Nat → Bool} (h : LSt w0 b T cs s g F k w') : LSt w0 b T cs s g F k w'.drew := ⟨h.m.below (Below.refl _ _).drew, h.a.drew⟩
theorem list_c (w : World) (h : TX w b T cs s 0) (hm : MaxL w) (hb : b ≠ 1) (hTS : T ≠ 24) :
  Calls Tryz.prog 124 #[.pointer (some ⟨b, 0, none⟩)] w (Outc w b T cs s sv (brkP s)) := by
 have hlt := h.lt
 have hne : w.heap.size ≠ b := by omega
 obtain ⟨w0, hw0⟩ : ∃ w0, w0 = w.alloc (.cells #[.int .u64 0, .int .u64 0, .int .u64 0, .int .u64 0] 24) := ⟨_, rfl⟩
 have r0 := Four.new w 24 (.int .u64 0) (.int .u64 0) (.int .u64 0) (.int .u64 0)
 have b0 : Below w.heap.size w (w.alloc (.cells #[.int .u64 0, .int .u64 0, .int .u64 0, .int .u64 0] 24)) := (Below.refl _ w).alloc (Nat.le_refl _) _
 rw [← hw0] at r0 b0
 have x0 := h.below b0
 have mx0 := hm.below b0
 have H1 := Lib.hid (skip_c [91] (by simp) w0 x0)
 have HSk := Lib.hid fun l (hl : l ≠ []) k w1 (m : Mv w0 b T cs s k w1) => skip_c l hl w1 m.x
 have HP := Lib.hid fun f k w1 (m : Mv w0 b T cs s k w1) => part_c f w1 m.x (mx0.grown m.g hb) hb
 have HZ := Lib.hid fun w => noset_c w
 have B0 := Lib.hid b0
 clear h hm x0 mx0 b0
 go_enter Tryz.func124, Tryz.ntmps124
 go_wp2_with fail
 rw [← hw0]
 clear hw0
 refine H1.out.mono ?_
 rintro e w1 ⟨rfl, hm1⟩
 clear H1
 cases a1 : ah s 0 [91] with
 | false =>
  rw [sk_no a1] at hm1
  go_wp2_with fail
  refine (HZ.out _).mono ?_
  rintro e w6 ⟨rfl, rfl⟩
  unfold Pan
  go_wp2
  exact ⟨rfl, Outc.no (by unfold brkP; rw [a1]; rfl) ((grownB B0.out).trans hm1.g)⟩
 | true =>
  rw [sk_yes a1] at hm1
  have hm1 : Mv w0 b T cs s 1 w1 := hm1
  go_wp2_with fail
  refine (HSk.out [94] (by simp) 1 w1 hm1).mono ?_
  rintro e w2 ⟨rfl, hm2'⟩
  have hm2 := hm1.trans hm2'
  clear hm1 hm2'
  go_wp2_with fail
  refine (HP.out true _ w2 hm2).mono ?_
  intro e wg hout
  have hout := Outc.trans hm2 hout
  clear hm2
  cases hq : partP s (sk s 1 [94]) true with
  | none =>
   rw [hq] at hout
   obtain ⟨rfl, hg⟩ := hout
   unfold Pan
   go_wp2
   exact ⟨rfl, Outc.no (by unfold brkP; rw [a1, if_neg (by decide)]; rw [hq]) ((grownB B0.out).trans hg)⟩
  | some q =>
   obtain ⟨G, k⟩ := q
   rw [hq] at hout
   obtain ⟨rfl, hm3⟩ := hout
   have hBP : brkP s = (match restP s (s.length + 1) k G with
    | none => none
    | some (F, m) => if noneIn (if ah s 1 [94] then (fun j => !F j) else F) then none else some ((if ah s 1 [94] then (fun j => !F j) else F), m)) := by
    unfold brkP; rw [a1, if_neg (by decide), hq]; rfl
   have HB := Lib.hid hBP
   clear hBP hq a1
   have hgb : wg.heap.size ≠ b := by have := hm3.x.lt; omega
   have hg0 : w0.heap.size ≤ wg.heap.size := hm3.g.size
   have r3 := r0.mv hm3.g hne
   have hr3 := r3.lt
   have hgr : w.heap.size ≠ wg.heap.size := by omega
   have a4 := Four.new wg 24 (.int .u64 (wd G 0)) (.int .u64 (wd G 1)) (.int .u64 (wd G 2)) (.int .u64 (wd G 3))
   have m4 := hm3.below ((Below.refl _ wg).alloc (Nat.le_refl _) (.cells #[.int .u64 (wd G 0), .int .u64 (wd G 1), .int .u64 (wd G 2), .int .u64 (wd G 3)] 24))
   have hL0 : LSt w0 b T cs s wg.heap.size G k (wg.alloc (.cells #[.int .u64 (wd G 0), .int .u64 (wd G 1), .int .u64 (wd G 2), .int .u64 (wd G 3)] 24)) := ⟨m4, a4⟩
   have HL0 := Lib.hid hL0
   clear hm3 r3 a4 m4 hL0
   simp only [sv]
   go_wp2
   go_loopw [] (fun wr => ∃ (F : Nat → Bool) (k' fu : Nat), s.length + 1 ≤ fu + k' ∧ Hid (restP s fu k' F = restP s (s.length + 1) k G) ∧ LSt w0 b T cs s wg.heap.size F k' wr) (fun wr => s.length - placeIn b wr)
   case atStart => exact ⟨G, k, s.length + 1, by omega, Lib.hid rfl, HL0.out⟩
   case round =>
    clear HL0
    obtain ⟨F, k', fu, hfu, hF, hL⟩ := hrel
    obtain ⟨hm, hA⟩ := hL
    have hk' := hm.len
    have hpl := hm.place
    go_wp2_with fail
    refine (HSk.out [93] (by simp) k' wr hm).mono ?_
    rintro e wa ⟨rfl, hma'⟩
    have hma := hm.trans hma'
    have hAa := Four.mv hA hma'.g hgb
    clear hm hA hma'
    obtain ⟨fu, rfl⟩ : ∃ q, fu = q + 1 := ⟨fu - 1, by omega⟩
    cases ak : ah s k' [93] with
    | true =>
     rw [sk_yes ak] at hma
     have hma : Mv w0 b T cs s (k' + 1) wa := hma
     have hBk0 : brkP s = if noneIn (if ah s 1 [94] then (fun j => !F j) else F) then none else some ((if ah s 1 [94] then (fun j => !F j) else F), k' + 1) := by
      rw [HB.out, ← hF.out, restP, ak]; rfl
     have hRa := r0.mv hma.g hne
     have hra := hRa.lt
     have hga := hAa.lt
     clear HB hF ak
     cases an : ah s 1 [94] with
     | true =>
      obtain ⟨H, hH⟩ : ∃ H, H = fun j => !F j := ⟨_, rfl⟩
      have HBk : Hid (brkP s = if noneIn H then none else some (H, k' + 1)) := Lib.hid (by rw [hBk0, an, if_pos rfl, hH])
      have hnt := fun w => not_c F w
      simp only [← hH] at hnt
      have HN := Lib.hid hnt
      clear hnt hH hBk0 an
      have hAac0 := hAa.c0
      have hAac1 := hAa.c1
      have hAac2 := hAa.c2
      have hAac3 := hAa.c3
      go_wp2_with fail
      refine (HN.out _).mono ?_
      rintro e wn ⟨rfl, hBn⟩
      have hmn := hma.below hBn
      have hAn := Four.below hAa hBn hAa.lt
      have hRn := Four.below hRa hBn hRa.lt
      have hMf := Lib.hid (hmn.set4 hg0 hgb H)
      have hAf := Lib.hid (FourS.set hAn H)
      have hRf := Lib.hid (Four.set4_other hRn hgr (.int .u64 (wd H 0)) (.int .u64 (wd H 1)) (.int .u64 (wd H 2)) (.int .u64 (wd H 3)))
      have hAnc0 := hAn.c0
      have hAnc1 := hAn.c1
      have hAnc2 := hAn.c2
      have hAnc3 := hAn.c3
      have hAnf0 := hAn.fz 0
      have hAnf1 := hAn.fz 1
      have hAnf2 := hAn.fz 2
      have hAnf3 := hAn.fz 3
      clear hmn hAn hRn hBn hma hAa hRa HN
      simp only [sv]
      have hz0 : ∀ w, (Op.equalIn 10000 24 (.agg #[.int .u64 (wd H 0), .int .u64 (wd H 1), .int .u64 (wd H 2), .int .u64 (wd H 3)]) (.agg #[.int .u64 0, .int .u64 0, .int .u64 0, .int .u64 0])).run Tryz.prog w = .ok (noneIn H) w := fun w => eq_words (wd H 0) (wd H 1) (wd H 2) (wd H 3) 0 0 0 0 (wd_lt H 0) (wd_lt H 1) (wd_lt H 2) (wd_lt H 3) (by omega) (by omega) (by omega) (by omega) w
      have hAc := hAf.out
      have hRc := hRf.out
      have hAcc0 := hAc.c0
      have hAcc1 := hAc.c1
      have hAcc2 := hAc.c2
      have hAcc3 := hAc.c3
      have hRcc0 := hRc.c0
      have hRcc1 := hRc.c1
      have hRcc2 := hRc.c2
      have hRcc3 := hRc.c3
      have hRcf0 := hRc.fz 0
      have hRcf1 := hRc.fz 1
      have hRcf2 := hRc.fz 2
      have hRcf3 := hRc.fz 3
      clear hAc hRc
      cases hz : noneIn H with
      | true =>
       rw [hz] at hz0
       have HBz : Hid (brkP s = none) := Lib.hid (by rw [HBk.out, hz]; rfl)
       clear hz
       go_wp2_with fail
       refine (HZ.out _).mono ?_
       rintro e w6 ⟨rfl, rfl⟩
       unfold Pan
       go_wp2
       exact ⟨rfl, Outc.no HBz.out ((grownB B0.out).trans hMf.out.g)⟩
      | false =>
       rw [hz] at hz0
       have HBz : Hid (brkP s = some (H, k' + 1)) := Lib.hid (by rw [HBk.out, hz]; rfl)
       clear hz
       go_wp2
       have q := FourS.set hRf.out H
       have qc0 := q.c0
       have qc1 := q.c1
       have qc2 := q.c2
       have qc3 := q.c3
       refine bodyPost_ret (v := sv H) (by simp [results, Tryz.results124, go_sem, qc0, qc1, qc2, qc3, sv]) rfl ?_
       exact Outc.yes HBz.out ((Mv.from B0.out hMf.out).set4 (g := w.heap.size) (Nat.le_refl _) hne H)
     | false =>
      have HBk : Hid (brkP s = if noneIn F then none else some (F, k' + 1)) := Lib.hid (by rw [hBk0, an]; rfl)
      obtain ⟨H, rfl⟩ : ∃ H, H = F := ⟨_, rfl⟩
      have hMf := Lib.hid hma
      have hAf := Lib.hid hAa
      have hRf := Lib.hid hRa
      clear hma hAa hRa hBk0 an
      have hz0 : ∀ w, (Op.equalIn 10000 24 (.agg #[.int .u64 (wd H 0), .int .u64 (wd H 1), .int .u64 (wd H 2), .int .u64 (wd H 3)]) (.agg #[.int .u64 0, .int .u64 0, .int .u64 0, .int .u64 0])).run Tryz.prog w = .ok (noneIn H) w := fun w => eq_words (wd H 0) (wd H 1) (wd H 2) (wd H 3) 0 0 0 0 (wd_lt H 0) (wd_lt H 1) (wd_lt H 2) (wd_lt H 3) (by omega) (by omega) (by omega) (by omega) w
      have hAc := hAf.out
      have hRc := hRf.out
      have hAcc0 := hAc.c0
      have hAcc1 := hAc.c1
      have hAcc2 := hAc.c2
      have hAcc3 := hAc.c3
      have hRcc0 := hRc.c0
      have hRcc1 := hRc.c1
      have hRcc2 := hRc.c2
      have hRcc3 := hRc.c3
      have hRcf0 := hRc.fz 0
      have hRcf1 := hRc.fz 1
      have hRcf2 := hRc.fz 2
      have hRcf3 := hRc.fz 3
      clear hAc hRc
      cases hz : noneIn H with
      | true =>
       rw [hz] at hz0
       have HBz : Hid (brkP s = none) := Lib.hid (by rw [HBk.out, hz]; rfl)
       clear hz
       go_wp2_with fail
       refine (HZ.out _).mono ?_
       rintro e w6 ⟨rfl, rfl⟩
       unfold Pan
       go_wp2
       exact ⟨rfl, Outc.no HBz.out ((grownB B0.out).trans hMf.out.g)⟩
      | false =>
       rw [hz] at hz0
       have HBz : Hid (brkP s = some (H, k' + 1)) := Lib.hid (by rw [HBk.out, hz]; rfl)
       clear hz
       go_wp2
       have q := FourS.set hRf.out H
       have qc0 := q.c0
       have qc1 := q.c1
       have qc2 := q.c2
       have qc3 := q.c3
       refine bodyPost_ret (v := sv H) (by simp [results, Tryz.results124, go_sem, qc0, qc1, qc2, qc3, sv]) rfl ?_
       exact Outc.yes HBz.out ((Mv.from B0.out hMf.out).set4 (g := w.heap.size) (Nat.le_refl _) hne H)
    | false =>
     rw [sk_no ak] at hma
     have hF2 : Hid ((match partP s k' false with
      | none => none
      | some (G, k) => restP s fu k (fun j => F j || G j)) = restP s (s.length + 1) k G) := Lib.hid (by rw [← hF.out, restP, ak]; rfl)
     clear hF ak
     go_wp2_with fail
     refine wp_region_held_drew (S := fun _ => True) (by kernel_rfl) trivial (fun _ => ?_)
     refine wpAnyH_take (i := 1) (v := ?_) rfl (by kernel_rfl) (by kernel_rfl) (by kernel_rfl) (fun _ _ _ h => h) (Or.inl ⟨by kernel_rfl, ?_⟩) (by trivial) ?_
     rotate_left
     ·(intro w hSw; (try dsimp only at hSw); go_simp); (try with_reducible rfl)
     try simp only [Act.put, laS]
     refine wpAnyH_ready (rs := [0, 2]) (by kernel_rfl) (by simp) ?_
     refine AllReadyH.cons rfl (fun K hK => ?_) (AllReadyH.cons rfl (fun K hK => ?_) AllReadyH.nil)
     ·have hAd := hAa.drew
      have hAdc0 := hAd.c0
      have hAdc1 := hAd.c1
      have hAdc2 := hAd.c2
      have hAdc3 := hAd.c3
      clear hAd
      go_simp
      refine hK.out _ _ trivial (fun _ => ?_)
      clear hK K
      try simp only [Act.put, laS]
      refine wpAnyH_ready (rs := [2]) (by kernel_rfl) (by simp) ?_
      refine AllReadyH.cons rfl (fun K hK => ?_) AllReadyH.nil
      go_simp
      refine (HP.out false k' _ (hma.below (Below.refl _ _).drew)).mono ?_
      intro e w3 hout
      cases hq : partP s k' false with
      | none =>
       rw [hq] at hout
       obtain ⟨rfl, hg3⟩ := hout
       unfold Pan
       go_wp2
       exact ⟨rfl, Outc.no (by rw [HB.out, ← hF2.out, hq]) ((grownB B0.out).trans ((hma.below (Below.refl _ _).drew).g.trans hg3))⟩
      | some q =>
       obtain ⟨G2, k2⟩ := q
       rw [hq] at hout
       obtain ⟨rfl, hm3'⟩ := hout
       have hA3 := Four.mv hAa.drew hm3'.g hgb
       have hm3 := (hma.below (Below.refl _ _).drew).trans hm3'
       have hple := partP_le hq
       simp only [sv]
       refine hK.out _ _ trivial (fun _ => ?_)
       clear hK K hm3'
       try simp only [Act.put, laS]
       obtain ⟨H, hH⟩ : ∃ H, H = fun i => F i || G2 i := ⟨_, rfl⟩
       have hnew : (w3.alloc (.cells #[.int .u64 (wd F 0), .int .u64 (wd F 1), .int .u64 (wd F 2), .int .u64 (wd F 3), .int .u64 (wd G2 0), .int .u64 (wd G2 1), .int .u64 (wd G2 2), .int .u64 (wd G2 3)] 24)).heap[w3.heap.size]? = some (.cells #[.int .u64 (wd F 0), .int .u64 (wd F 1), .int .u64 (wd F 2), .int .u64 (wd F 3), .int .u64 (wd G2 0), .int .u64 (wd G2 1), .int .u64 (wd G2 2), .int .u64 (wd G2 3)] 24 (0, 0)) := heap_new w3 _
       have hor := or2_c F G2 w3.heap.size 2 _ 24 hnew
       rw [← hH] at hor
       have hrs : Hid (restP s fu k2 H = restP s (s.length + 1) k G) := Lib.hid (by rw [← hF2.out, hq, hH])
       have hb4 : Below w3.heap.size w3 (w3.alloc (.cells #[.int .u64 (wd F 0), .int .u64 (wd F 1), .int .u64 (wd F 2), .int .u64 (wd F 3), .int .u64 (wd G2 0), .int .u64 (wd G2 1), .int .u64 (wd G2 2), .int .u64 (wd G2 3)] 24)) := (Below.refl _ w3).alloc (Nat.le_refl _) _
       have HOR := Lib.hid hor
       clear hor hH hnew hF2 hq
       refine wpAnyH_ready (rs := [3]) (by kernel_rfl) (by simp) ?_
       refine AllReadyH.cons rfl (fun K hK => ?_) AllReadyH.nil
       go_simp
       refine hK.out _ _ trivial (fun _ => ?_)
       clear hK K
       try simp only [Act.put, laS]
       refine wpAnyH_ready (rs := [4]) (by kernel_rfl) (by simp) ?_
       refine AllReadyH.cons rfl (fun K hK => ?_) AllReadyH.nil
       go_simp
       refine HOR.out.mono ?_
       rintro e w6 ⟨rfl, hB6⟩
       have hB36 : Below w3.heap.size w3 w6 := hb4.trans (hB6.mono hb4.size)
       have hm6 := hm3.below hB36
       have hA6 := Four.below hA3 hB36 hA3.lt
       clear HOR hB6 hb4 hB36 hm3 hA3
       simp only [sv]
       refine hK.out _ _ trivial (fun _ => ?_)
       clear hK K
       try simp only [Act.put, laS]
       refine wpAnyH_ready (rs := [5]) (by kernel_rfl) (by simp) ?_
       refine AllReadyH.cons rfl (fun K hK => ?_) AllReadyH.nil
       have hA6c0 := hA6.c0
       have hA6c1 := hA6.c1
       have hA6c2 := hA6.c2
       have hA6c3 := hA6.c3
       have hA6f0 := hA6.fz 0
       have hA6f1 := hA6.fz 1
       have hA6f2 := hA6.fz 2
       have hA6f3 := hA6.fz 3
       go_simp
       refine hK.out _ _ trivial (fun _ => ?_)
       clear hK K
       try simp only [Act.put, laS]
       refine wpAnyH_done (by kernel_rfl) ?_ _
       have hm7 := hm6.set4 hg0 hgb H
       have hA7 := FourS.set hA6 H
       have hp7 := hm7.place
       have HM7 := Lib.hid hm7
       have HA7 := Lib.hid hA7
       clear hm7 hA7
       go_wp2
       go_roundw
       case rel => exact ⟨H, k2, fu, by omega, hrs, ⟨HM7.out, HA7.out⟩⟩
       case measure => rw [hp7, hpl]; omega
     ·go_simp
      refine (HP.out false k' _ (hma.below (Below.refl _ _).drew)).mono ?_
      intro e w3 hout
      cases hq : partP s k' false with
      | none =>
       rw [hq] at hout
       obtain ⟨rfl, hg3⟩ := hout
       unfold Pan
       go_wp2
       exact ⟨rfl, Outc.no (by rw [HB.out, ← hF2.out, hq]) ((grownB B0.out).trans ((hma.below (Below.refl _ _).drew).g.trans hg3))⟩
      | some q =>
       obtain ⟨G2, k2⟩ := q
       rw [hq] at hout
       obtain ⟨rfl, hm3'⟩ := hout
       have hA3 := Four.mv hAa.drew hm3'.g hgb
       have hm3 := (hma.below (Below.refl _ _).drew).trans hm3'
       have hple := partP_le hq
       simp only [sv]
       refine hK.out _ _ trivial (fun _ => ?_)
       clear hK K hm3'
       try simp only [Act.put, laS]
       refine wpAnyH_ready (rs := [0]) (by kernel_rfl) (by simp) ?_
       refine AllReadyH.cons rfl (fun K hK => ?_) AllReadyH.nil
       have hA3c0 := hA3.c0
       have hA3c1 := hA3.c1
       have hA3c2 := hA3.c2
       have hA3c3 := hA3.c3
       go_simp
       refine hK.out _ _ trivial (fun _ => ?_)
       clear hK K
       try simp only [Act.put, laS]
       obtain ⟨H, hH⟩ : ∃ H, H = fun i => F i || G2 i := ⟨_, rfl⟩
       have hnew : (w3.alloc (.cells #[.int .u64 (wd F 0), .int .u64 (wd F 1), .int .u64 (wd F 2), .int .u64 (wd F 3), .int .u64 (wd G2 0), .int .u64 (wd G2 1), .int .u64 (wd G2 2), .int .u64 (wd G2 3)] 24)).heap[w3.heap.size]? = some (.cells #[.int .u64 (wd F 0), .int .u64 (wd F 1), .int .u64 (wd F 2), .int .u64 (wd F 3), .int .u64 (wd G2 0), .int .u64 (wd G2 1), .int .u64 (wd G2 2), .int .u64 (wd G2 3)] 24 (0, 0)) := heap_new w3 _
       have hor := or2_c F G2 w3.heap.size 2 _ 24 hnew
       rw [← hH] at hor
       have hrs : Hid (restP s fu k2 H = restP s (s.length + 1) k G) := Lib.hid (by rw [← hF2.out, hq, hH])
       have hb4 : Below w3.heap.size w3 (w3.alloc (.cells #[.int .u64 (wd F 0), .int .u64 (wd F 1), .int .u64 (wd F 2), .int .u64 (wd F 3), .int .u64 (wd G2 0), .int .u64 (wd G2 1), .int .u64 (wd G2 2), .int .u64 (wd G2 3)] 24)) := (Below.refl _ w3).alloc (Nat.le_refl _) _
       have HOR := Lib.hid hor
       clear hor hH hnew hF2 hq
       refine wpAnyH_ready (rs := [3]) (by kernel_rfl) (by simp) ?_
       refine AllReadyH.cons rfl (fun K hK => ?_) AllReadyH.nil
       go_simp
       refine hK.out _ _ trivial (fun _ => ?_)
       clear hK K
       try simp only [Act.put, laS]
       refine wpAnyH_ready (rs := [4]) (by kernel_rfl) (by simp) ?_
       refine AllReadyH.cons rfl (fun K hK => ?_) AllReadyH.nil
       go_simp
       refine HOR.out.mono ?_
       rintro e w6 ⟨rfl, hB6⟩
       have hB36 : Below w3.heap.size w3 w6 := hb4.trans (hB6.mono hb4.size)
       have hm6 := hm3.below hB36
       have hA6 := Four.below hA3 hB36 hA3.lt
       clear HOR hB6 hb4 hB36 hm3 hA3
       simp only [sv]
       refine hK.out _ _ trivial (fun _ => ?_)
       clear hK K
       try simp only [Act.put, laS]
       refine wpAnyH_ready (rs := [5]) (by kernel_rfl) (by simp) ?_
       refine AllReadyH.cons rfl (fun K hK => ?_) AllReadyH.nil
       have hA6c0 := hA6.c0
       have hA6c1 := hA6.c1
       have hA6c2 := hA6.c2
       have hA6c3 := hA6.c3
       have hA6f0 := hA6.fz 0
       have hA6f1 := hA6.fz 1
       have hA6f2 := hA6.fz 2
       have hA6f3 := hA6.fz 3
       go_simp
       refine hK.out _ _ trivial (fun _ => ?_)
       clear hK K
       try simp only [Act.put, laS]
       refine wpAnyH_done (by kernel_rfl) ?_ _
       have hm7 := hm6.set4 hg0 hgb H
       have hA7 := FourS.set hA6 H
       have hp7 := hm7.place
       have HM7 := Lib.hid hm7
       have HA7 := Lib.hid hA7
       clear hm7 hA7
       go_wp2
       go_roundw
       case rel => exact ⟨H, k2, fu, by omega, hrs, ⟨HM7.out, HA7.out⟩⟩
       case measure => rw [hp7, hpl]; omega
end
end Go.Proofs.YtdjcgjkbecncaaaGreatDoor
