/- What lifts the walks of stage 4: a set among the arguments. -/
import Derived.Test.YtdjcgjkbecncaaaGreatDoorJEpB
import Derived.Laws.IdiomArrays
import Derived.Test.YtdjcgjkbecncaaaGreatDoorJBtBc
import Derived.Test.YtdjcgjkbecncaaaGreatDoorJBrKb
import Derived.Test.YtdjcgjkbecncaaaGreatDoorJRxX
import Derived.Test.YtdjcgjkbecncaaaGreatDoorJBrP
set_option linter.unusedVariables false
set_option linter.unusedSimpArgs false
set_option maxRecDepth 100000
set_option maxHeartbeats 40000000
namespace Go.Proofs.YtdjcgjkbecncaaaGreatDoor
open Go.ChangeShapes Go.WideShapes Go.ChangeAt Go.RowKit
def setDQ {H : Type} (f : Nat → Bool) : DataW H := .agg [.lit (.int .u64 (wd f 0)), .lit (.int .u64 (wd f 1)), .lit (.int .u64 (wd f 2)), .lit (.int .u64 (wd f 3))]
theorem list4Q {α : Type} (l : List α) (h : (⟨l⟩ : Array α).size = 4) : ∃ a b c d, l = [a, b, c, d] := by
 match l, h with
 | [a, b, c, d], _ => exact ⟨a, b, c, d, rfl⟩
theorem cells22Q : Tryz.prog.cellsOf 22 = 1 := by kernel_rfl
theorem cells24Q : Tryz.prog.cellsOf 24 = 4 := by kernel_rfl
theorem wf_wordQ (f : Nat → Bool) (k : Nat) : (Lit.int .u64 (wd f k : Int)).wf = true := by
 have := wd_lt f k
 simp [Lit.wf, IntKind.min, IntKind.max, IntKind.signed, IntKind.bits]
 omega
section
variable {H : Type} {enc : TypeId × Value → H} {W : World} {base b0 : Nat} {sp : Nat → Bool} {held : Bool} {r : Reach}
theorem open_setQ {v : Value} {d : DataW H} {ps : List MemPlace} (hval : Value.okWide Tryz.prog W r b0 24 v) (hd : DataW.Trod enc Tryz.prog W base sp held 24 v d ps) :
  ∃ f, v = sv f ∧ d = setDQ f ∧ ps = [] := by
 obtain ⟨cs, rfl, hsz, _⟩ : ∃ cs, v = .agg cs ∧ cs.size = Tryz.prog.cellsOf 24 ∧ Row.okWide Tryz.prog W r b0 24 cs := by
  simpa [Value.okWide, Tryz.underlying24] using hval
 rw [cells24Q] at hsz
 obtain ⟨l⟩ := cs
 obtain ⟨c0, c1, c2, c3, rfl⟩ := list4Q l hsz
 obtain ⟨fuel, hf⟩ := hd
 obtain ⟨y0, y1, y2, y3, m, hx, hy0, hy1, hy2, hy3⟩ := trod_array4 Tryz.underlying24 cells22Q hf
 obtain ⟨x0, e0, rfl, w0⟩ := DataW.trod_int Tryz.underlying22 hy0
 obtain ⟨x1, e1, rfl, w1⟩ := DataW.trod_int Tryz.underlying22 hy1
 obtain ⟨x2, e2, rfl, w2⟩ := DataW.trod_int Tryz.underlying22 hy2
 obtain ⟨x3, e3, rfl, w3⟩ := DataW.trod_int Tryz.underlying22 hy3
 simp at e0 e1 e2 e3
 subst e0 e1 e2 e3
 simp only [Prod.mk.injEq] at hx
 obtain ⟨rfl, rfl⟩ := hx
 obtain ⟨n0, rfl, l0⟩ := word_of_wf w0
 obtain ⟨n1, rfl, l1⟩ := word_of_wf w1
 obtain ⟨n2, rfl, l2⟩ := word_of_wf w2
 obtain ⟨n3, rfl, l3⟩ := word_of_wf w3
 obtain ⟨g0, g1, g2, g3⟩ := ofWords_wd l0 l1 l2 l3
 refine ⟨ofWords n0 n1 n2 n3, ?_, ?_, rfl⟩
 ·unfold sv; rw [g0, g1, g2, g3]
 ·unfold setDQ; rw [g0, g1, g2, g3]
theorem shut_setQ (f : Nat → Bool) : DataW.Trod enc Tryz.prog W base sp held 24 (sv f) (setDQ f) [] :=
 ⟨2, by simp [sv, setDQ, DataW.trod, Value.cells, Tryz.underlying24, Tryz.underlying22, cells24Q, cells22Q, wf_wordQ, show List.range 4 = [0, 1, 2, 3] from rfl]⟩
end
end Go.Proofs.YtdjcgjkbecncaaaGreatDoor
namespace Go.Proofs.YtdjcgjkbecncaaaGreatDoor
open Go.RowKit Go.Lib
def bFrom (P : Nat → Bool) (i : Nat) : List UInt8 := ((List.range' i (256 - i)).filter P).map UInt8.ofNat
theorem bFrom_end (P : Nat → Bool) (i : Nat) (h : 256 ≤ i) : bFrom P i = [] := by
 unfold bFrom
 rw [show 256 - i = 0 by omega]; rfl
theorem bFrom_step (P : Nat → Bool) (i : Nat) (h : i < 256) : bFrom P i = if P i then UInt8.ofNat i :: bFrom P (i + 1) else bFrom P (i + 1) := by
 unfold bFrom
 rw [show 256 - i = (256 - (i + 1)) + 1 by omega, List.range'_succ, List.filter_cons]
 split <;> simp
theorem U_range (P : Nat → Bool) : ∀ n, n ≤ 256 → (U P n).map (fun x => x.1) = (List.range n).filter P
 | 0, _ => rfl
 | n + 1, h => by
  rw [List.range_succ, List.filter_append, ← U_range P n (by omega)]
  cases hp : P n with
  | true => rw [U_hit (by omega) hp]; simp [hp]
  | false => rw [U_miss hp]; simp [hp]
theorem bytesL_from (P : Nat → Bool) : bytesL P = bFrom P 0 := by
 unfold bytesL bFrom
 rw [bytesOf_list, ← List.range_eq_range', ← U_range P 256 (by omega), List.map_map]
 rfl
def runTo (P : Nat → Bool) : Nat → Nat → Nat
 | 0, k => k
 | f + 1, k => if k + 1 < 256 ∧ P (k + 1) = true then runTo P f (k + 1) else k
theorem runTo_ge (P : Nat → Bool) : ∀ f k, k ≤ runTo P f k
 | 0, k => Nat.le_refl _
 | f + 1, k => by
  rw [runTo]
  split
  ·have := runTo_ge P f (k + 1); omega
  ·exact Nat.le_refl _
theorem runTo_lt (P : Nat → Bool) : ∀ f k, k < 256 → runTo P f k < 256
 | 0, k, h => h
 | f + 1, k, h => by
  rw [runTo]
  split
  ·rename_i q; exact runTo_lt P f (k + 1) q.1
  ·exact h
theorem runTo_more (P : Nat → Bool) : ∀ f k, 256 ≤ f + k → runTo P (f + 1) k = runTo P f k
 | 0, k, h => by
  rw [runTo, runTo, if_neg (by omega)]
 | f + 1, k, h => by
  rw [runTo]
  conv => rhs; rw [runTo]
  split
  ·exact runTo_more P f (k + 1) (by omega)
  ·rfl
theorem runTo_same (P : Nat → Bool) (k : Nat) : ∀ d f, 256 ≤ f + k → runTo P (f + d) k = runTo P f k
 | 0, f, h => rfl
 | d + 1, f, h => by rw [← Nat.add_assoc, runTo_more P (f + d) k (by omega), runTo_same P k d f h]
theorem ofNat_inj {a b : Nat} (ha : a < 256) (hb : b < 256) (h : UInt8.ofNat a = UInt8.ofNat b) : a = b := by
 have := congrArg UInt8.toNat h
 rw [UInt8.toNat_ofNat', UInt8.toNat_ofNat'] at this
 omega
theorem ofNat_next (i : Nat) : UInt8.ofNat i + 1 = UInt8.ofNat (i + 1) := by
 apply UInt8.toNat_inj.1
 rw [UInt8.toNat_add, UInt8.toNat_ofNat', UInt8.toNat_ofNat']
 have : UInt8.toNat 1 = 1 := rfl
 omega
theorem bFrom_mem (P : Nat → Bool) (i : Nat) : ∀ b ∈ bFrom P i, ∃ j, b = UInt8.ofNat j ∧ i ≤ j ∧ j < 256 ∧ P j = true := fun b hb => by
 unfold bFrom at hb
 obtain ⟨j, hj, rfl⟩ := List.mem_map.1 hb
 obtain ⟨h1, h2⟩ := List.mem_filter.1 hj
 have := List.mem_range'_1.1 h1
 exact ⟨j, rfl, by omega, by omega, h2⟩
theorem run_from (P : Nat → Bool) : ∀ (d i : Nat), 256 = d + i → 1 ≤ d → P i = true →
  i + runLen (bFrom P i) = runTo P d i + 1 ∧ (bFrom P i).drop (runLen (bFrom P i)) = bFrom P (runTo P d i + 1) ∧ (bFrom P i).take (runLen (bFrom P i)) = (List.range' i (runLen (bFrom P i))).map UInt8.ofNat
 | 0, i, h, h1, hp => by omega
 | d + 1, i, h, h1, hp => by
  have hs := bFrom_step P i (by omega)
  rw [hp, if_pos rfl] at hs
  rw [runTo]
  by_cases c : i + 1 < 256 ∧ P (i + 1) = true
  ·rw [if_pos c]
   have hs2 := bFrom_step P (i + 1) c.1
   rw [c.2, if_pos rfl] at hs2
   obtain ⟨a1, a2, a3⟩ := run_from P d (i + 1) (by omega) (by omega) c.2
   have hr : runLen (bFrom P i) = runLen (bFrom P (i + 1)) + 1 := by
    rw [hs, hs2]
    simp only [runLen]
    rw [if_pos (ofNat_next i).symm]
   rw [hr]
   refine ⟨by omega, ?_, ?_⟩
   ·rw [hs, List.drop_succ_cons]; exact a2
   ·rw [hs, List.take_succ_cons, a3, List.range'_succ]; rfl
  ·rw [if_neg c]
   have hr : runLen (bFrom P i) = 1 := by
    rw [hs]
    cases hl : bFrom P (i + 1) with
    | nil => rfl
    | cons b l =>
     simp only [runLen]
     rw [if_neg]
     intro e
     obtain ⟨j, h1, h2, h3, h4⟩ := bFrom_mem P (i + 1) b (by rw [hl]; simp)
     rw [ofNat_next] at e
     rw [e] at h1
     have := ofNat_inj (a := i + 1) (b := j) (by omega) h3 h1
     subst this
     exact c ⟨h3, h4⟩
   rw [hr]
   refine ⟨by omega, ?_, ?_⟩
   ·rw [hs]; rfl
   ·rw [hs]; rfl
def lst (P : Nat → Bool) : Nat → Nat → List UInt8
 | 0, _ => []
 | f + 1, i => if 256 ≤ i then [] else if P i = false then lst P f (i + 1) else
  if i + 2 ≤ runTo P 256 i then [UInt8.ofNat i, 45, UInt8.ofNat (runTo P 256 i)] ++ lst P f (runTo P 256 i + 1) else [UInt8.ofNat i] ++ lst P f (i + 1)
theorem lst_runs (P : Nat → Bool) : ∀ (n i : Nat), 256 ≤ n + i → ∀ f g, n < f → (bFrom P i).length < g → lst P f i = runsP g (bFrom P i)
 | n, i, h, 0, g, hf, hg => by omega
 | n, i, h, f + 1, 0, hf, hg => by omega
 | n, i, h, f + 1, g + 1, hf, hg => by
  by_cases hi : 256 ≤ i
  ·rw [lst, if_pos hi, bFrom_end P i hi]; rfl
  ·obtain ⟨n, rfl⟩ : ∃ m, n = m + 1 := ⟨n - 1, by omega⟩
   have hs := bFrom_step P i (by omega)
   rw [lst, if_neg hi]
   cases hp : P i with
   | false =>
    rw [hp] at hs
    simp only [Bool.false_eq_true, if_false] at hs
    rw [if_pos rfl, hs]
    exact lst_runs P n (i + 1) (by omega) f (g + 1) (by omega) (by rw [← hs]; exact hg)
   | true =>
    rw [hp, if_pos rfl] at hs
    rw [if_neg (by decide)]
    obtain ⟨a1, a2, a3⟩ := run_from P (256 - i) i (by omega) (by omega) hp
    have hk : runTo P (256 - i) i = runTo P 256 i := by
     have := runTo_same P i i (256 - i) (by omega)
     rw [show 256 - i + i = 256 by omega] at this
     exact this.symm
    rw [hk] at a1 a2
    have hge := runTo_ge P 256 i
    have hlt := runTo_lt P 256 i (by omega)
    have hlen : (bFrom P (runTo P 256 i + 1)).length < g := by
     rw [← a2, List.length_drop]
     have : 1 ≤ runLen (bFrom P i) := by omega
     have hl1 : 1 ≤ (bFrom P i).length := by rw [hs]; simp
     omega
    have hrun : runsP (g + 1) (bFrom P i) = (if runLen (bFrom P i) < 3 then (bFrom P i).take (runLen (bFrom P i)) else [UInt8.ofNat i, 45] ++ ((bFrom P i).drop (runLen (bFrom P i) - 1)).take 1) ++ runsP g (bFrom P (runTo P 256 i + 1)) := by
     rw [← a2]
     conv => lhs; rw [hs]
     rw [runsP, ← hs]
    rw [hrun]
    by_cases h2 : i + 2 ≤ runTo P 256 i
    ·rw [if_pos h2, if_neg (by omega)]
     have hl : ((bFrom P i).drop (runLen (bFrom P i) - 1)).take 1 = [UInt8.ofNat (runTo P 256 i)] := by
      have e : ((bFrom P i).take (runLen (bFrom P i)))[runLen (bFrom P i) - 1]? = some (UInt8.ofNat (runTo P 256 i)) := by
       rw [a3, List.getElem?_map, List.getElem?_range' (by omega)]
       show some (UInt8.ofNat (i + 1 * (runLen (bFrom P i) - 1))) = _
       rw [show i + 1 * (runLen (bFrom P i) - 1) = runTo P 256 i by omega]
      rw [List.getElem?_take_of_lt (by omega)] at e
      obtain ⟨h1, h2⟩ := List.getElem?_eq_some_iff.1 e
      rw [List.drop_eq_getElem_cons h1, h2]
      rfl
     rw [hl, lst_runs P (255 - runTo P 256 i) (runTo P 256 i + 1) (by omega) f g (by omega) hlen]
     rfl
    ·rw [if_neg h2, if_pos (by omega), a3]
     by_cases hk2 : runTo P 256 i = i
     ·have hr : runLen (bFrom P i) = 1 := by omega
      rw [hr, lst_runs P n (i + 1) (by omega) f g (by omega) (by rw [hk2] at hlen; exact hlen), hk2]
      rfl
     ·have hr : runLen (bFrom P i) = 2 := by omega
      have hki : runTo P 256 i = i + 1 := by omega
      have hp1 : P (i + 1) = true := by
       rw [show (256 : Nat) = 255 + 1 from rfl, runTo] at hki
       split at hki
       ·rename_i q; exact q.2
       ·omega
      have hk3 : runTo P 256 (i + 1) = i + 1 := by
       have e1 : runTo P 256 i = runTo P 255 (i + 1) := by
        rw [show (256 : Nat) = 255 + 1 from rfl, runTo, if_pos ⟨by omega, hp1⟩]
       have e2 := runTo_same P (i + 1) 1 255 (by omega)
       rw [show 255 + 1 = 256 from rfl] at e2
       rw [e2, ← e1]; exact hki
      obtain ⟨f, rfl⟩ : ∃ q, f = q + 1 := ⟨f - 1, by omega⟩
      rw [lst, if_neg (by omega), if_neg (by rw [hp1]; decide), hk3, if_neg (by omega), hr, hki, lst_runs P (n - 1) (i + 1 + 1) (by omega) f g (by omega) (by rw [hki] at hlen; exact hlen)]
      rfl
def refList (F : Nat → Bool) : List UInt8 :=
 [91] ++ onlyP F 93 [93] ++ lst (leftF F) 257 0 ++ onlyP F 10 [92, 110] ++ onlyP F 91 [91] ++ onlyP F 92 [92] ++ (if bytesL F = [45, 94] then [45, 94, 93] else onlyP F 94 [94] ++ onlyP F 45 [45] ++ [93])
theorem lst_all (F : Nat → Bool) : lst (leftF F) 257 0 = runsP 257 (bytesL (leftF F)) := by
 rw [bytesL_from]
 refine lst_runs _ 256 0 (by omega) 257 257 (by omega) ?_
 rw [← bytesL_from, bytesL_len]
 have := cnt_le (leftF F) 256
 omega
end Go.Proofs.YtdjcgjkbecncaaaGreatDoor
namespace Go.Proofs.YtdjcgjkbecncaaaGreatDoor
open Go.RowKit Go.Lib
theorem rstr_one (m : Nat) (hm : m < 256) : strOfNums [(m : Int)] = ⟨#[UInt8.ofNat m]⟩ := by
 apply ByteArray.ext
 apply Array.ext'
 rw [strOfNums_data]
 simp
theorem rconv1 (m : Nat) (hm : m < 256) (b : Nat) (W : World) (hc : W.cell? ⟨b, 0, none⟩ = some (.int .u8 (m : Int))) :
  (convert 80 9 (.slice (some ⟨b, 0, none⟩) 1 1)).run Tryz.prog W = .ok (.string ⟨#[UInt8.ofNat m]⟩) W := by
 rw [← rstr_one m hm]
 refine run_convert_bytes_arg W 80 5 Tryz.underlying80 Tryz.underlying5 b 0 1 1 [(m : Int)] rfl (fun i hi => ?_) _ Tryz.underlying9
 obtain rfl : i = 0 := by omega
 simpa using hc
theorem rconv3 (m n : Nat) (hm : m < 256) (hn : n < 256) (b : Nat) (W : World) (h0 : W.cell? ⟨b, 0, none⟩ = some (.int .u8 (m : Int))) (h1 : W.cell? ⟨b, 1, none⟩ = some (.int .u8 45)) (h2 : W.cell? ⟨b, 2, none⟩ = some (.int .u8 (n : Int))) :
  (convert 80 9 (.slice (some ⟨b, 0, none⟩) 3 3)).run Tryz.prog W = .ok (.string ⟨#[UInt8.ofNat m, 45, UInt8.ofNat n]⟩) W := by
 have e : strOfNums [(m : Int), 45, (n : Int)] = ⟨#[UInt8.ofNat m, 45, UInt8.ofNat n]⟩ := by
  apply ByteArray.ext
  apply Array.ext'
  rw [strOfNums_data]
  simp
 rw [← e]
 refine run_convert_bytes_arg W 80 5 Tryz.underlying80 Tryz.underlying5 b 0 3 3 [(m : Int), 45, (n : Int)] rfl (fun i hi => ?_) _ Tryz.underlying9
 rcases (by omega : i = 0 ∨ i = 1 ∨ i = 2) with rfl | rfl | rfl
 ·simpa using h0
 ·simpa using h1
 ·simpa using h2
theorem rin_c (s : List UInt8) (hs : s.length ≤ 1000) (c : Nat) (hc : c < 256) (w : World) :
  Calls Tryz.prog 91 #[.string ⟨s.toArray⟩, .int .u8 (c : Int)] w fun e w' => e = .returned (.bool (inL s c)) ∧ Below w.heap.size w w' := by
 have hsz : (⟨s.toArray⟩ : ByteArray).size = s.length := by simp [ByteArray.size]
 obtain ⟨r, hr⟩ : ∃ r, r = inL s c := ⟨_, rfl⟩
 rw [← hr]
 have HR := Lib.hid hr
 clear hr
 go_enter Tryz.func91, Tryz.ntmps91
 go_wp2
 go_loopw [5] (fun iv wr => ∃ k : Nat, k ≤ s.length ∧ iv = .int .i64 (k : Int) ∧ (∀ (j : Nat) (b : UInt8), j < k → s[j]? = some b → b.toNat ≠ c) ∧ Below w.heap.size w wr) (fun iv _ => s.length - (RowKit.intOf iv).toNat)
 case atStart => exact ⟨0, by omega, rfl, fun j b hj => absurd hj (by omega), Below.refl _ _⟩
 case round =>
  obtain ⟨k, hk, rfl, hg, hB⟩ := hrel
  have HG := Lib.hid hg
  clear hg
  by_cases hlt : k < s.length
  ·have zl : ((k : Int) < s.length) = True := by simp; omega
   obtain ⟨b, hb⟩ : ∃ b, s[k]? = some b := ⟨_, List.getElem?_eq_getElem hlt⟩
   have hx := fun W => ixl_c s k b hb W
   by_cases he : b.toNat = c
   ·have hbe : ((b.toNat : Int) == (c : Int)) = true := by rw [he]; simp
    have hrt : r = true := by
     rw [HR.out]
     unfold inL
     rw [List.any_eq_true]
     exact ⟨b, List.mem_of_getElem? hb, by simp [he]⟩
    subst hrt
    subst he
    clear HG HR hb
    go_wp2
    go_ret
    exact ⟨rfl, hB⟩
   ·have hbe : ((b.toNat : Int) == (c : Int)) = false := by rw [beq_eq_false_iff_ne]; omega
    have HN := Lib.hid (fun j d (hj : j < k + 1) hd => by
     by_cases e : j = k
     ·subst e; rw [hb] at hd; cases hd; exact he
     ·exact HG.out j d (by omega) hd : ∀ (j : Nat) (d : UInt8), j < k + 1 → s[j]? = some d → d.toNat ≠ c)
    clear HG HR hb he
    go_wp2
    go_roundw
    case rel => exact ⟨k + 1, by omega, rfl, HN.out, hB⟩
    case measure => (simp [RowKit.intOf] <;> omega)
  ·obtain rfl : k = s.length := by omega
   have zl : ((s.length : Int) < s.length) = False := by simp
   have hrf : r = false := by
    rw [HR.out]
    unfold inL
    rw [List.any_eq_false]
    intro b hb
    obtain ⟨j, hj, e⟩ := List.mem_iff_getElem.1 hb
    have := HG.out j b hj (by rw [List.getElem?_eq_getElem hj, e])
    simpa using this
   subst hrf
   clear HG HR
   go_wp2
   go_ret
   exact ⟨rfl, hB⟩
theorem rszL_c (f : Nat → Bool) (w : World) :
  Calls Tryz.prog 52 #[bv f] w fun e w' => e = .returned (.int .i64 (cnt f 256 : Nat)) ∧ Below w.heap.size w w' := by
 have HB := Lib.hid fun w => rbytes_c f w
 have h0 := Row.new w f
 have hz := bytesOf_size f
 have hcn := cnt_le f 256
 have hb0 : Below w.heap.size w (w.alloc (.cells (barr f) 28)) := (Below.refl _ w).alloc (Nat.le_refl _) _
 generalize bytesOf f = BB at *
 generalize cnt f 256 = n at *
 unfold bv at HB ⊢
 go_enter Tryz.func52, Tryz.ntmps52
 go_wp2
 refine wp_load_row h0 rfl rfl ?_
 go_wp2_with fail
 refine (HB.out _).mono ?_
 rintro e w1 ⟨rfl, hB⟩
 have hb := hb0.trans (hB.mono hb0.size)
 clear HB hB hb0
 go_wp2
 go_ret
 exact ⟨rfl, hb⟩
end Go.Proofs.YtdjcgjkbecncaaaGreatDoor
namespace Go.Proofs.YtdjcgjkbecncaaaGreatDoor
open Go.RowKit Go.Lib
structure LsAt (w : World) (F : Nat → Bool) (base : List UInt8) (k fu : Nat) (O : ByteArray) (wr : World) : Prop where
 kl : k ≤ 256
 f : 256 < fu + k
 eq : O.data.toList ++ lst (leftF F) fu k = base ++ lst (leftF F) 257 0
 sz : O.size ≤ 2 + 3 * k
 row : Row wr w.heap.size F
 bel : Below w.heap.size w wr
theorem LsAt.below {w wr w' : World} {F : Nat → Bool} {base : List UInt8} {k fu : Nat} {O : ByteArray} (h : LsAt w F base k fu O wr) (hB : Below wr.heap.size wr w') : LsAt w F base k fu O w' :=
 ⟨h.kl, h.f, h.eq, h.sz, h.row.below hB h.row.lt, h.bel.trans (hB.mono h.bel.size)⟩
theorem aside_in (j : Nat) : inL [93, 91, 92, 94, 45, 10] j = (j == 93 || j == 91 || j == 92 || j == 94 || j == 45 || j == 10) := by
 rw [Bool.eq_iff_iff]
 simp [inL]
 omega
theorem aside_eq2 (j : Nat) : inS ⟨#[93, 91, 92, 94, 45, 10]⟩ 6 j = inL [93, 91, 92, 94, 45, 10] j := by
 rw [aside_in, Bool.eq_iff_iff]
 simp [inS]
 omega
theorem left_eq (F : Nat → Bool) (j : Nat) : leftF F j = (F j && !inL [93, 91, 92, 94, 45, 10] j) := by unfold leftF; rw [aside_eq2]
theorem LsAt.skip {w wr : World} {F : Nat → Bool} {base : List UInt8} {k fu : Nat} {O : ByteArray} (h : LsAt w F base k fu O wr) (hk : k < 256) (hp : leftF F k = false) : LsAt w F base (k + 1) (fu - 1) O wr := by
 obtain ⟨f, rfl⟩ : ∃ f, fu = f + 1 := ⟨fu - 1, by have := h.f; omega⟩
 have h1 := h.eq
 rw [lst, if_neg (by omega), if_pos hp] at h1
 exact ⟨by omega, by have := h.f; omega, h1, by have := h.sz; omega, h.row, h.bel⟩
theorem LsAt.one {w wr : World} {F : Nat → Bool} {base : List UInt8} {k fu : Nat} {O : ByteArray} (h : LsAt w F base k fu O wr) (hk : k < 256) (hp : leftF F k = true) (hr : ¬ k + 2 ≤ runTo (leftF F) 256 k) : LsAt w F base (k + 1) (fu - 1) (O ++ ⟨#[UInt8.ofNat k]⟩) wr := by
 obtain ⟨f, rfl⟩ : ∃ f, fu = f + 1 := ⟨fu - 1, by have := h.f; omega⟩
 have h1 := h.eq
 rw [lst, if_neg (by omega), if_neg (by rw [hp]; decide), if_neg hr] at h1
 refine ⟨by omega, by have := h.f; omega, ?_, ?_, h.row, h.bel⟩
 ·rw [← h1]
  simp
 ·have := h.sz
  have e : (O ++ (⟨#[UInt8.ofNat k]⟩ : ByteArray)).size = O.size + 1 := by rw [ByteArray.size_append]; rfl
  rw [e]; omega
theorem LsAt.three {w wr : World} {F : Nat → Bool} {base : List UInt8} {k fu : Nat} {O : ByteArray} (h : LsAt w F base k fu O wr) (hk : k < 256) (hp : leftF F k = true) (hr : k + 2 ≤ runTo (leftF F) 256 k) : LsAt w F base (runTo (leftF F) 256 k + 1) (fu - 1) (O ++ ⟨#[UInt8.ofNat k, 45, UInt8.ofNat (runTo (leftF F) 256 k)]⟩) wr := by
 obtain ⟨f, rfl⟩ : ∃ f, fu = f + 1 := ⟨fu - 1, by have := h.f; omega⟩
 have h1 := h.eq
 rw [lst, if_neg (by omega), if_neg (by rw [hp]; decide), if_pos hr] at h1
 have hlt := runTo_lt (leftF F) 256 k hk
 refine ⟨by omega, by have := h.f; omega, ?_, ?_, h.row, h.bel⟩
 ·rw [← h1]
  simp
 ·have := h.sz
  have e : (O ++ (⟨#[UInt8.ofNat k, 45, UInt8.ofNat (runTo (leftF F) 256 k)]⟩ : ByteArray)).size = O.size + 3 := by rw [ByteArray.size_append]; rfl
  rw [e]; omega
theorem runTo_stop {P : Nat → Bool} {d j R : Nat} (h : runTo P d j = R) (hs : ¬ (j + 1 < 256 ∧ P (j + 1) = true)) : R = j := by
 cases d with
 | zero => exact h.symm
 | succ d => rw [runTo, if_neg hs] at h; exact h.symm
theorem runTo_next {P : Nat → Bool} {d j R : Nat} (h : runTo P d j = R) (hd : 256 ≤ d + j) (h1 : j + 1 < 256) (h2 : P (j + 1) = true) : runTo P (d - 1) (j + 1) = R := by
 obtain ⟨d, rfl⟩ : ∃ q, d = q + 1 := ⟨d - 1, by omega⟩
 rw [runTo, if_pos ⟨h1, h2⟩] at h
 exact h
end Go.Proofs.YtdjcgjkbecncaaaGreatDoor
namespace Go.Proofs.YtdjcgjkbecncaaaGreatDoor
open Go.RowKit Go.Lib
theorem rlist_c (F : Nat → Bool) (w : World) :
  Calls Tryz.prog 55 #[bv F] w fun e w' => e = .returned (.string ⟨(refList F).toArray⟩) ∧ Below w.heap.size w w' := by
 have h0 := Row.new w F
 have hb0 : Below w.heap.size w (w.alloc (.cells (barr F) 28)) := (Below.refl _ w).alloc (Nat.le_refl _) _
 have HIN := Lib.hid fun c hc w => rin_c [93, 91, 92, 94, 45, 10] (by decide) c hc w
 have HBY := Lib.hid fun w => rbytes_c F w
 have c93 := h0.cell 93 (by decide)
 obtain ⟨base, hbase⟩ : ∃ b, b = [91] ++ onlyP F 93 [93] := ⟨_, rfl⟩
 have hst : ∀ O : ByteArray, O.data.toList = base → LsAt w F base 0 257 O (w.alloc (.cells (barr F) 28)) := fun O h => ⟨by omega, by omega, by rw [h], by
  have e : O.size = O.data.toList.length := by simp
  rw [e, h, hbase]
  have := onlyP_len F 93 [93]
  rw [List.length_append]
  simp only [List.length_cons, List.length_nil] at *
  omega, h0, hb0⟩
 have HST := Lib.hid hst
 have HBASE := Lib.hid hbase
 have hrl : refList F = base ++ lst (leftF F) 257 0 ++ onlyP F 10 [92, 110] ++ onlyP F 91 [91] ++ onlyP F 92 [92] ++ (if bytesL F = [45, 94] then [45, 94, 93] else onlyP F 94 [94] ++ onlyP F 45 [45] ++ [93]) := by rw [hbase]; rfl
 have HRL := Lib.hid hrl
 unfold bv at HBY ⊢
 clear hst hbase hrl hb0 h0
 cases h93 : F 93
 all_goals as_aux_lemma =>
  rw [h93] at c93
  go_enter Tryz.func55, Tryz.ntmps55
  go_wp2_with fail
  go_loopw [3, 4] (fun ov iv wr => ∃ (k fu : Nat) (O : ByteArray), ov = .string O ∧ iv = .int .i64 (k : Int) ∧ LsAt w F base k fu O wr) (fun _ iv _ => 256 - (RowKit.intOf iv).toNat)
  case atStart => exact ⟨0, 257, _, rfl, rfl, HST.out _ (by rw [HBASE.out]; simp [onlyP, h93])⟩
  case round =>
   clear HST HBASE h93 c93
   obtain ⟨k, fu, O, rfl, rfl, hA⟩ := hrel
   have hk := hA.kl
   have hOs := hA.sz
   by_cases hlt : k < 256
   ·have zk : ((k : Int) < 256) = True := by simp; omega
    have hc := hA.row.cell k hlt
    have euk : IntKind.u8.wrap (k : Int) = (k : Int) := by simp [IntKind.wrap, IntKind.signed, IntKind.bits]; omega
    have y1 : (9223372036854775807 < O.size + 1) = False := by simp; omega
    have y3 : (9223372036854775807 < O.size + 3) = False := by simp; omega
    have HA := Lib.hid hA
    clear hA HRL HBY
    cases hf : F k with
    | false =>
     rw [hf] at hc
     have HN := Lib.hid (HA.out.skip hlt (by rw [left_eq, hf]; rfl))
     clear HA HIN
     go_wp2
     go_roundw
     case rel => exact ⟨k + 1, _, O, rfl, rfl, HN.out⟩
     case measure => (simp [RowKit.intOf] <;> omega)
    | true =>
     rw [hf] at hc
     have HI := Lib.hid (HIN.out k hlt wr)
     go_wp2_with fail
     refine HI.out.mono ?_
     rintro e wa ⟨rfl, hBa⟩
     have HA := Lib.hid (HA.out.below hBa)
     clear HI hBa hc
     cases ha : inL [93, 91, 92, 94, 45, 10] k with
     | true =>
      have HN := Lib.hid (HA.out.skip hlt (by rw [left_eq, hf, ha]; rfl))
      clear HA HIN
      go_wp2
      go_roundw
      case rel => exact ⟨k + 1, _, O, rfl, rfl, HN.out⟩
      case measure => (simp [RowKit.intOf] <;> omega)
     | false =>
      have HPK := Lib.hid (show leftF F k = true by rw [left_eq, hf, ha]; rfl)
      have HC1 := Lib.hid fun b W h => rconv1 k hlt b W h
      have HC3 := Lib.hid fun j hj b W h0 h1 h2 => rconv3 k j hlt hj b W h0 h1 h2
      clear hf ha
      go_wp2_with fail
      go_loopw [5] (fun jv wi => ∃ (j d : Nat), jv = .int .i64 (j : Int) ∧ k ≤ j ∧ j < 256 ∧ 256 ≤ d + j ∧ Hid (runTo (leftF F) d j = runTo (leftF F) 256 k) ∧ LsAt w F base k fu O wi) (fun jv _ => 256 - (RowKit.intOf jv).toNat)
      case atStart => exact ⟨k, 256, rfl, by omega, hlt, by omega, Lib.hid rfl, HA.out⟩
      case round =>
       clear HA
       obtain ⟨j, d, rfl, hkj, hj256, hd, hrt, hA⟩ := hrel
       have HA := Lib.hid hA
       have ewj : IntKind.i64.wrap ((j : Int) + 1) = (j : Int) + 1 := by simp [IntKind.wrap, IntKind.signed, IntKind.bits]; omega
       have eu8j : IntKind.u8.wrap (j : Int) = (j : Int) := by simp [IntKind.wrap, IntKind.signed, IntKind.bits]; omega
       by_cases hje : j + 1 < 256
       ·have zj : ((j : Int) + 1 < 256) = True := by simp; omega
        have eu8 : IntKind.u8.wrap ((j : Int) + 1) = (j : Int) + 1 := by simp [IntKind.wrap, IntKind.signed, IntKind.bits]; omega
        have hc1 := hA.row.cell (j + 1) hje
        clear hA
        cases hf1 : F (j + 1) with
        | false =>
         rw [hf1] at hc1
         have hno : ¬ (j + 1 < 256 ∧ leftF F (j + 1) = true) := fun h => by (have h2 := h.2; rw [left_eq, hf1] at h2; cases h2)
         have hR := Lib.hid (runTo_stop hrt.out hno)
         clear hrt hno
         by_cases h2 : k + 2 ≤ j
         ·have z2 : ((2 : Int) ≤ (j : Int) - (k : Int)) = True := by simp; omega
          have ews : IntKind.i64.wrap ((j : Int) - (k : Int)) = (j : Int) - (k : Int) := by simp [IntKind.wrap, IntKind.signed, IntKind.bits]; omega
          have hl3 := HA.out.three hlt HPK.out (by rw [hR.out]; exact h2)
          rw [hR.out] at hl3
          have hrl := HA.out.row.lt
          have hal := (Below.refl _ wr).alloc (Nat.le_refl _) (.cells #[.int .u8 (k : Int), .int .u8 45, .int .u8 (j : Int)] 5)
          have hn := heap_new wr (.cells #[.int .u8 (k : Int), .int .u8 45, .int .u8 (j : Int)] 5)
          have hcv := HC3.out j hj256 wr.heap.size _ (cell_of _ _ _ _ hn 0) (cell_of _ _ _ _ hn 1) (cell_of _ _ _ _ hn 2)
          have HL := Lib.hid (hl3.below hal)
          clear hl3 hal hn HA HPK HC1 HC3 HIN hR
          go_wp2
          go_roundw
          case rel => exact ⟨_, _, _, rfl, rfl, HL.out⟩
          case measure => (simp [RowKit.intOf] <;> omega)
         ·have z2 : ((2 : Int) ≤ (j : Int) - (k : Int)) = False := by simp; omega
          have ews : IntKind.i64.wrap ((j : Int) - (k : Int)) = (j : Int) - (k : Int) := by simp [IntKind.wrap, IntKind.signed, IntKind.bits]; omega
          have hl1 := HA.out.one hlt HPK.out (by rw [hR.out]; exact h2)
          have hal := (Below.refl _ wr).alloc (Nat.le_refl _) (.cells #[.int .u8 (k : Int)] 5)
          have hn := heap_new wr (.cells #[.int .u8 (k : Int)] 5)
          have hcv := HC1.out wr.heap.size _ (cell_of _ _ _ _ hn 0)
          have HL := Lib.hid (hl1.below hal)
          clear hl1 hal hn HA HPK HC1 HC3 HIN hR
          go_wp2
          go_roundw
          case rel => exact ⟨_, _, _, rfl, rfl, HL.out⟩
          case measure => (simp [RowKit.intOf] <;> omega)
        | true =>
         rw [hf1] at hc1
         have HI1 := Lib.hid (HIN.out (j + 1) hje wr)
         go_wp2_with fail
         refine HI1.out.mono ?_
         rintro e wb ⟨rfl, hBb⟩
         have HA := Lib.hid (HA.out.below hBb)
         clear hc1 hBb
         cases ha1 : inL [93, 91, 92, 94, 45, 10] (j + 1) with
         | true =>
          have hno : ¬ (j + 1 < 256 ∧ leftF F (j + 1) = true) := fun h => by (have h2 := h.2; rw [left_eq, hf1, ha1] at h2; cases h2)
          have hR := Lib.hid (runTo_stop hrt.out hno)
          clear hrt hno
          by_cases h2 : k + 2 ≤ j
          ·have z2 : ((2 : Int) ≤ (j : Int) - (k : Int)) = True := by simp; omega
           have ews : IntKind.i64.wrap ((j : Int) - (k : Int)) = (j : Int) - (k : Int) := by simp [IntKind.wrap, IntKind.signed, IntKind.bits]; omega
           have hl3 := HA.out.three hlt HPK.out (by rw [hR.out]; exact h2)
           rw [hR.out] at hl3
           have hrl := HA.out.row.lt
           have hal := (Below.refl _ wb).alloc (Nat.le_refl _) (.cells #[.int .u8 (k : Int), .int .u8 45, .int .u8 (j : Int)] 5)
           have hn := heap_new wb (.cells #[.int .u8 (k : Int), .int .u8 45, .int .u8 (j : Int)] 5)
           have hcv := HC3.out j hj256 wb.heap.size _ (cell_of _ _ _ _ hn 0) (cell_of _ _ _ _ hn 1) (cell_of _ _ _ _ hn 2)
           have HL := Lib.hid (hl3.below hal)
           clear hl3 hal hn HA HPK HC1 HC3 HIN hR
           go_wp2
           go_roundw
           case rel => exact ⟨_, _, _, rfl, rfl, HL.out⟩
           case measure => (simp [RowKit.intOf] <;> omega)
          ·have z2 : ((2 : Int) ≤ (j : Int) - (k : Int)) = False := by simp; omega
           have ews : IntKind.i64.wrap ((j : Int) - (k : Int)) = (j : Int) - (k : Int) := by simp [IntKind.wrap, IntKind.signed, IntKind.bits]; omega
           have hl1 := HA.out.one hlt HPK.out (by rw [hR.out]; exact h2)
           have hal := (Below.refl _ wb).alloc (Nat.le_refl _) (.cells #[.int .u8 (k : Int)] 5)
           have hn := heap_new wb (.cells #[.int .u8 (k : Int)] 5)
           have hcv := HC1.out wb.heap.size _ (cell_of _ _ _ _ hn 0)
           have HL := Lib.hid (hl1.below hal)
           clear hl1 hal hn HA HPK HC1 HC3 HIN hR
           go_wp2
           go_roundw
           case rel => exact ⟨_, _, _, rfl, rfl, HL.out⟩
           case measure => (simp [RowKit.intOf] <;> omega)
         | false =>
          have hrn := Lib.hid (runTo_next hrt.out hd hje (by rw [left_eq, hf1, ha1]; rfl))
          clear hrt HC1 HC3 HPK HI1
          go_wp2
          go_roundw
          case rel => exact ⟨j + 1, d - 1, rfl, by omega, by omega, by omega, hrn, HA.out⟩
          case measure => (simp [RowKit.intOf] <;> omega)
       ·have zj : ((j : Int) + 1 < 256) = False := by simp; omega
        clear hA
        have hno : ¬ (j + 1 < 256 ∧ leftF F (j + 1) = true) := fun h => hje h.1
        have hR := Lib.hid (runTo_stop hrt.out hno)
        clear hrt hno
        by_cases h2 : k + 2 ≤ j
        ·have z2 : ((2 : Int) ≤ (j : Int) - (k : Int)) = True := by simp; omega
         have ews : IntKind.i64.wrap ((j : Int) - (k : Int)) = (j : Int) - (k : Int) := by simp [IntKind.wrap, IntKind.signed, IntKind.bits]; omega
         have hl3 := HA.out.three hlt HPK.out (by rw [hR.out]; exact h2)
         rw [hR.out] at hl3
         have hrl := HA.out.row.lt
         have hal := (Below.refl _ wr).alloc (Nat.le_refl _) (.cells #[.int .u8 (k : Int), .int .u8 45, .int .u8 (j : Int)] 5)
         have hn := heap_new wr (.cells #[.int .u8 (k : Int), .int .u8 45, .int .u8 (j : Int)] 5)
         have hcv := HC3.out j hj256 wr.heap.size _ (cell_of _ _ _ _ hn 0) (cell_of _ _ _ _ hn 1) (cell_of _ _ _ _ hn 2)
         have HL := Lib.hid (hl3.below hal)
         clear hl3 hal hn HA HPK HC1 HC3 HIN hR
         go_wp2
         go_roundw
         case rel => exact ⟨_, _, _, rfl, rfl, HL.out⟩
         case measure => (simp [RowKit.intOf] <;> omega)
        ·have z2 : ((2 : Int) ≤ (j : Int) - (k : Int)) = False := by simp; omega
         have ews : IntKind.i64.wrap ((j : Int) - (k : Int)) = (j : Int) - (k : Int) := by simp [IntKind.wrap, IntKind.signed, IntKind.bits]; omega
         have hl1 := HA.out.one hlt HPK.out (by rw [hR.out]; exact h2)
         have hal := (Below.refl _ wr).alloc (Nat.le_refl _) (.cells #[.int .u8 (k : Int)] 5)
         have hn := heap_new wr (.cells #[.int .u8 (k : Int)] 5)
         have hcv := HC1.out wr.heap.size _ (cell_of _ _ _ _ hn 0)
         have HL := Lib.hid (hl1.below hal)
         clear hl1 hal hn HA HPK HC1 HC3 HIN hR
         go_wp2
         go_roundw
         case rel => exact ⟨_, _, _, rfl, rfl, HL.out⟩
         case measure => (simp [RowKit.intOf] <;> omega)
   ·obtain rfl : k = 256 := by omega
    have zk : ((256 : Int) < 256) = False := by simp
    have hO : O.data.toList = base ++ lst (leftF F) 257 0 := by
     obtain ⟨f, rfl⟩ : ∃ f, fu = f + 1 := ⟨fu - 1, by have := hA.f; omega⟩
     have h1 := hA.eq
     rw [lst, if_pos (by omega), List.append_nil] at h1
     exact h1
    have hHP := HRL.out
    rw [← hO] at hHP
    have c10 := hA.row.cell 10 (by decide)
    have c91 := hA.row.cell 91 (by decide)
    have c92 := hA.row.cell 92 (by decide)
    have HA := Lib.hid hA
    have HP := Lib.hid hHP
    have HBL := Lib.hid (show bytesL F = (bytesOf F).data.toList from rfl)
    clear hA hHP hO HRL HIN
    generalize bytesOf F = BB at HBY HBL
    have y100 : (9223372036854775807 < O.size + 1) = False := by simp; omega
    have y101 : (9223372036854775807 < O.size + 1 + 1) = False := by simp; omega
    have y102 : (9223372036854775807 < O.size + 1 + 1 + 1) = False := by simp; omega
    have y103 : (9223372036854775807 < O.size + 1 + 1 + 1 + 1) = False := by simp; omega
    have y104 : (9223372036854775807 < O.size + 1 + 1 + 1 + 1 + 1) = False := by simp; omega
    have y105 : (9223372036854775807 < O.size + 3) = False := by simp; omega
    have y106 : (9223372036854775807 < O.size + 1 + 3) = False := by simp; omega
    have y107 : (9223372036854775807 < O.size + 1 + 1 + 3) = False := by simp; omega
    have y108 : (9223372036854775807 < O.size + 2) = False := by simp; omega
    have y109 : (9223372036854775807 < O.size + 2 + 1) = False := by simp; omega
    have y110 : (9223372036854775807 < O.size + 2 + 1 + 1) = False := by simp; omega
    have y111 : (9223372036854775807 < O.size + 2 + 1 + 1 + 1) = False := by simp; omega
    have y112 : (9223372036854775807 < O.size + 2 + 1 + 1 + 1 + 1) = False := by simp; omega
    have y113 : (9223372036854775807 < O.size + 2 + 1 + 1 + 1 + 1 + 1) = False := by simp; omega
    have y114 : (9223372036854775807 < O.size + 2 + 3) = False := by simp; omega
    have y115 : (9223372036854775807 < O.size + 2 + 1 + 3) = False := by simp; omega
    have y116 : (9223372036854775807 < O.size + 2 + 1 + 1 + 3) = False := by simp; omega
    cases h10 : F 10 <;> cases h91 : F 91 <;> cases h92 : F 92
    all_goals as_aux_lemma =>
     rw [h10] at c10
     rw [h91] at c91
     rw [h92] at c92
     go_wp2
     refine wp_load_row HA.out.row rfl rfl ?_
     go_wp2_with fail
     refine (HBY.out _).mono ?_
     rintro e wz ⟨rfl, hBz⟩
     have hrz := HA.out.row.below hBz HA.out.row.lt
     have c94 := hrz.cell 94 (by decide)
     have c45 := hrz.cell 45 (by decide)
     have HB := Lib.hid (HA.out.bel.trans (hBz.mono HA.out.bel.size))
     clear HA HBY hBz hrz c10 c91 c92
     by_cases hbb : BB.data.toList = [45, 94]
     ·have hbq : (BB.toList == [45, 94]) = true := by rw [ByteArray.toList_eq]; simpa using hbb
      have HBB := Lib.hid hbb
      clear hbb
      go_wp2
      go_ret
      refine ⟨congrArg (fun t : ByteArray => Ending.returned (Value.string t)) (?_ : _ = (⟨(refList F).toArray⟩ : ByteArray)), HB.out⟩
      apply Go.WideShapes.bytes_inj
      rw [HP.out]
      simp [onlyP, h10, h91, h92, HBL.out, HBB.out]
     ·have hbq : (BB.toList == [45, 94]) = false := by rw [ByteArray.toList_eq]; simpa using hbb
      have HBB := Lib.hid hbb
      clear hbb
      cases h94 : F 94 <;> cases h45 : F 45
      all_goals
       rw [h94] at c94
       rw [h45] at c45
       go_wp2
       go_ret
       refine ⟨congrArg (fun t : ByteArray => Ending.returned (Value.string t)) (?_ : _ = (⟨(refList F).toArray⟩ : ByteArray)), HB.out⟩
       apply Go.WideShapes.bytes_inj
       rw [HP.out]
       simp [onlyP, h10, h91, h92, h94, h45, HBL.out, HBB.out]
end Go.Proofs.YtdjcgjkbecncaaaGreatDoor
namespace Go.Proofs.YtdjcgjkbecncaaaGreatDoor
open Go.RowKit Go.Lib
theorem bytesL_congr {F G : Nat → Bool} (h : ∀ i, i < 256 → F i = G i) : bytesL F = bytesL G := by
 rw [bytesL_from, bytesL_from]
 unfold bFrom
 congr 1
 apply List.filter_congr
 intro i hi
 have := List.mem_range'_1.1 hi
 exact h i (by omega)
theorem hat_bytes (F : Nat → Bool) : hatDash F = true ↔ bytesL F = [45, 94] := by
 constructor
 ·intro h
  rw [bytesL_congr (hat_of h)]
  decide +kernel
 ·intro h
  refine hat_iff (fun i hi => ?_)
  rw [← inL_bytes F i hi, h, Bool.eq_iff_iff]
  simp [inL, inS]
  omega
theorem refList_eq (F : Nat → Bool) : refList F = [91] ++ listP F ++ [93] := by
 unfold refList listP
 rw [lst_all]
 cases hh : hatDash F with
 | true =>
  have hb := (hat_bytes F).1 hh
  have hs := hat_of hh
  have z : ∀ c, c < 256 → c ≠ 94 → c ≠ 45 → F c = false := fun c hc h1 h2 => by
   rw [hs c hc]
   simp [inS]
   omega
  have hl : bytesL (leftF F) = [] := by
   have e : bytesL (leftF F) = bytesL (fun _ => false) := bytesL_congr (fun i hi => by
    rw [left_eq, hs i hi, aside_in, Bool.eq_iff_iff]
    simp [inS]
    omega)
   rw [e]
   decide +kernel
  rw [if_pos hb, if_pos rfl, hl]
  simp only [onlyP, z 93 (by decide) (by decide) (by decide), z 10 (by decide) (by decide) (by decide), z 91 (by decide) (by decide) (by decide), z 92 (by decide) (by decide) (by decide)]
  rfl
 | false =>
  have hb : ¬ bytesL F = [45, 94] := fun e => by rw [(hat_bytes F).2 e] at hh; cases hh
  rw [if_neg hb]
  simp
theorem refShown_eq (F : Nat → Bool) (h0 : cnt F 256 ≠ 0) (h1 : cnt F 256 ≠ 1) (h2 : cnt F 256 ≠ 256) : refList F = showP F := by
 unfold showP
 rw [if_neg h0, if_neg h1, if_neg h2]
 exact refList_eq F
end Go.Proofs.YtdjcgjkbecncaaaGreatDoor
