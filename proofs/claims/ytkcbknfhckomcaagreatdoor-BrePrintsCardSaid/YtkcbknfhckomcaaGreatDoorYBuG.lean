/- Of no program: a list as the reference tells it, byte by byte. -/
import Derived.Test.YtkcbknfhckomcaaGreatDoorYSetMn
import Derived.Test.YtkcbknfhckomcaaGreatDoorYBrKb
import Derived.Test.YtkcbknfhckomcaaGreatDoorYSetH
import Derived.Test.YtkcbknfhckomcaaGreatDoorYRxTd
import Derived.Test.YtkcbknfhckomcaaGreatDoorYBuC
import Derived.Laws.DeepStrings4
set_option linter.unusedVariables false
set_option linter.unusedSimpArgs false
set_option maxRecDepth 100000
set_option maxHeartbeats 40000000
namespace Go.Proofs.YtkcbknfhckomcaaGreatDoor
open Go.RowKit Go.Lib
def bFrom (P : Nat → Bool) (i : Nat) : List UInt8 := ((List.range' i (256 - i)).filter P).map UInt8.ofNat
theorem bFrom_end (P : Nat → Bool) (i : Nat) (h : 256 ≤ i) : bFrom P i = [] := by
 unfold bFrom
 rw [show 256 - i = 0 by omega]; rfl
theorem bFrom_step (P : Nat → Bool) (i : Nat) (h : i < 256) : bFrom P i = if P i then UInt8.ofNat i :: bFrom P (i + 1) else bFrom P (i + 1) := by
 unfold bFrom
 rw [show 256 - i = (256 - (i + 1)) + 1 by omega, List.range'_succ, List.filter_cons]
 split <;> simp
theorem U_range (P : Nat → Bool) : ∀ n, n ≤ 256 → (U P n).map (fun x => x.1) = (List.range n).filter P
 | 0, _ => rfl
 | n + 1, h => by
  rw [List.range_succ, List.filter_append, ← U_range P n (by omega)]
  cases hp : P n with
  | true => rw [U_hit (by omega) hp]; simp [hp]
  | false => rw [U_miss hp]; simp [hp]
theorem bytesL_from (P : Nat → Bool) : bytesL P = bFrom P 0 := by
 unfold bytesL bFrom
 rw [bytesOf_list, ← List.range_eq_range', ← U_range P 256 (by omega), List.map_map]
 rfl
def runTo (P : Nat → Bool) : Nat → Nat → Nat
 | 0, k => k
 | f + 1, k => if k + 1 < 256 ∧ P (k + 1) = true then runTo P f (k + 1) else k
theorem runTo_ge (P : Nat → Bool) : ∀ f k, k ≤ runTo P f k
 | 0, k => Nat.le_refl _
 | f + 1, k => by
  rw [runTo]
  split
  ·have := runTo_ge P f (k + 1); omega
  ·exact Nat.le_refl _
theorem runTo_lt (P : Nat → Bool) : ∀ f k, k < 256 → runTo P f k < 256
 | 0, k, h => h
 | f + 1, k, h => by
  rw [runTo]
  split
  ·rename_i q; exact runTo_lt P f (k + 1) q.1
  ·exact h
theorem runTo_more (P : Nat → Bool) : ∀ f k, 256 ≤ f + k → runTo P (f + 1) k = runTo P f k
 | 0, k, h => by
  rw [runTo, runTo, if_neg (by omega)]
 | f + 1, k, h => by
  rw [runTo]
  conv => rhs; rw [runTo]
  split
  ·exact runTo_more P f (k + 1) (by omega)
  ·rfl
theorem runTo_same (P : Nat → Bool) (k : Nat) : ∀ d f, 256 ≤ f + k → runTo P (f + d) k = runTo P f k
 | 0, f, h => rfl
 | d + 1, f, h => by rw [← Nat.add_assoc, runTo_more P (f + d) k (by omega), runTo_same P k d f h]
theorem ofNat_inj {a b : Nat} (ha : a < 256) (hb : b < 256) (h : UInt8.ofNat a = UInt8.ofNat b) : a = b := by
 have := congrArg UInt8.toNat h
 rw [UInt8.toNat_ofNat', UInt8.toNat_ofNat'] at this
 omega
theorem ofNat_next (i : Nat) : UInt8.ofNat i + 1 = UInt8.ofNat (i + 1) := by
 apply UInt8.toNat_inj.1
 rw [UInt8.toNat_add, UInt8.toNat_ofNat', UInt8.toNat_ofNat']
 have : UInt8.toNat 1 = 1 := rfl
 omega
theorem bFrom_mem (P : Nat → Bool) (i : Nat) : ∀ b ∈ bFrom P i, ∃ j, b = UInt8.ofNat j ∧ i ≤ j ∧ j < 256 ∧ P j = true := fun b hb => by
 unfold bFrom at hb
 obtain ⟨j, hj, rfl⟩ := List.mem_map.1 hb
 obtain ⟨h1, h2⟩ := List.mem_filter.1 hj
 have := List.mem_range'_1.1 h1
 exact ⟨j, rfl, by omega, by omega, h2⟩
theorem run_from (P : Nat → Bool) : ∀ (d i : Nat), 256 = d + i → 1 ≤ d → P i = true →
  i + runLen (bFrom P i) = runTo P d i + 1 ∧ (bFrom P i).drop (runLen (bFrom P i)) = bFrom P (runTo P d i + 1) ∧ (bFrom P i).take (runLen (bFrom P i)) = (List.range' i (runLen (bFrom P i))).map UInt8.ofNat
 | 0, i, h, h1, hp => by omega
 | d + 1, i, h, h1, hp => by
  have hs := bFrom_step P i (by omega)
  rw [hp, if_pos rfl] at hs
  rw [runTo]
  by_cases c : i + 1 < 256 ∧ P (i + 1) = true
  ·rw [if_pos c]
   have hs2 := bFrom_step P (i + 1) c.1
   rw [c.2, if_pos rfl] at hs2
   obtain ⟨a1, a2, a3⟩ := run_from P d (i + 1) (by omega) (by omega) c.2
   have hr : runLen (bFrom P i) = runLen (bFrom P (i + 1)) + 1 := by
    rw [hs, hs2]
    simp only [runLen]
    rw [if_pos (ofNat_next i).symm]
   rw [hr]
   refine ⟨by omega, ?_, ?_⟩
   ·rw [hs, List.drop_succ_cons]; exact a2
   ·rw [hs, List.take_succ_cons, a3, List.range'_succ]; rfl
  ·rw [if_neg c]
   have hr : runLen (bFrom P i) = 1 := by
    rw [hs]
    cases hl : bFrom P (i + 1) with
    | nil => rfl
    | cons b l =>
     simp only [runLen]
     rw [if_neg]
     intro e
     obtain ⟨j, h1, h2, h3, h4⟩ := bFrom_mem P (i + 1) b (by rw [hl]; simp)
     rw [ofNat_next] at e
     rw [e] at h1
     have := ofNat_inj (a := i + 1) (b := j) (by omega) h3 h1
     subst this
     exact c ⟨h3, h4⟩
   rw [hr]
   refine ⟨by omega, ?_, ?_⟩
   ·rw [hs]; rfl
   ·rw [hs]; rfl
def lst (P : Nat → Bool) : Nat → Nat → List UInt8
 | 0, _ => []
 | f + 1, i => if 256 ≤ i then [] else if P i = false then lst P f (i + 1) else
  if i + 2 ≤ runTo P 256 i then [UInt8.ofNat i, 45, UInt8.ofNat (runTo P 256 i)] ++ lst P f (runTo P 256 i + 1) else [UInt8.ofNat i] ++ lst P f (i + 1)
theorem lst_runs (P : Nat → Bool) : ∀ (n i : Nat), 256 ≤ n + i → ∀ f g, n < f → (bFrom P i).length < g → lst P f i = runsP g (bFrom P i)
 | n, i, h, 0, g, hf, hg => by omega
 | n, i, h, f + 1, 0, hf, hg => by omega
 | n, i, h, f + 1, g + 1, hf, hg => by
  by_cases hi : 256 ≤ i
  ·rw [lst, if_pos hi, bFrom_end P i hi]; rfl
  ·obtain ⟨n, rfl⟩ : ∃ m, n = m + 1 := ⟨n - 1, by omega⟩
   have hs := bFrom_step P i (by omega)
   rw [lst, if_neg hi]
   cases hp : P i with
   | false =>
    rw [hp] at hs
    simp only [Bool.false_eq_true, if_false] at hs
    rw [if_pos rfl, hs]
    exact lst_runs P n (i + 1) (by omega) f (g + 1) (by omega) (by rw [← hs]; exact hg)
   | true =>
    rw [hp, if_pos rfl] at hs
    rw [if_neg (by decide)]
    obtain ⟨a1, a2, a3⟩ := run_from P (256 - i) i (by omega) (by omega) hp
    have hk : runTo P (256 - i) i = runTo P 256 i := by
     have := runTo_same P i i (256 - i) (by omega)
     rw [show 256 - i + i = 256 by omega] at this
     exact this.symm
    rw [hk] at a1 a2
    have hge := runTo_ge P 256 i
    have hlt := runTo_lt P 256 i (by omega)
    have hlen : (bFrom P (runTo P 256 i + 1)).length < g := by
     rw [← a2, List.length_drop]
     have : 1 ≤ runLen (bFrom P i) := by omega
     have hl1 : 1 ≤ (bFrom P i).length := by rw [hs]; simp
     omega
    have hrun : runsP (g + 1) (bFrom P i) = (if runLen (bFrom P i) < 3 then (bFrom P i).take (runLen (bFrom P i)) else [UInt8.ofNat i, 45] ++ ((bFrom P i).drop (runLen (bFrom P i) - 1)).take 1) ++ runsP g (bFrom P (runTo P 256 i + 1)) := by
     rw [← a2]
     conv => lhs; rw [hs]
     rw [runsP, ← hs]
    rw [hrun]
    by_cases h2 : i + 2 ≤ runTo P 256 i
    ·rw [if_pos h2, if_neg (by omega)]
     have hl : ((bFrom P i).drop (runLen (bFrom P i) - 1)).take 1 = [UInt8.ofNat (runTo P 256 i)] := by
      have e : ((bFrom P i).take (runLen (bFrom P i)))[runLen (bFrom P i) - 1]? = some (UInt8.ofNat (runTo P 256 i)) := by
       rw [a3, List.getElem?_map, List.getElem?_range' (by omega)]
       show some (UInt8.ofNat (i + 1 * (runLen (bFrom P i) - 1))) = _
       rw [show i + 1 * (runLen (bFrom P i) - 1) = runTo P 256 i by omega]
      rw [List.getElem?_take_of_lt (by omega)] at e
      obtain ⟨h1, h2⟩ := List.getElem?_eq_some_iff.1 e
      rw [List.drop_eq_getElem_cons h1, h2]
      rfl
     rw [hl, lst_runs P (255 - runTo P 256 i) (runTo P 256 i + 1) (by omega) f g (by omega) hlen]
     rfl
    ·rw [if_neg h2, if_pos (by omega), a3]
     by_cases hk2 : runTo P 256 i = i
     ·have hr : runLen (bFrom P i) = 1 := by omega
      rw [hr, lst_runs P n (i + 1) (by omega) f g (by omega) (by rw [hk2] at hlen; exact hlen), hk2]
      rfl
     ·have hr : runLen (bFrom P i) = 2 := by omega
      have hki : runTo P 256 i = i + 1 := by omega
      have hp1 : P (i + 1) = true := by
       rw [show (256 : Nat) = 255 + 1 from rfl, runTo] at hki
       split at hki
       ·rename_i q; exact q.2
       ·omega
      have hk3 : runTo P 256 (i + 1) = i + 1 := by
       have e1 : runTo P 256 i = runTo P 255 (i + 1) := by
        rw [show (256 : Nat) = 255 + 1 from rfl, runTo, if_pos ⟨by omega, hp1⟩]
       have e2 := runTo_same P (i + 1) 1 255 (by omega)
       rw [show 255 + 1 = 256 from rfl] at e2
       rw [e2, ← e1]; exact hki
      obtain ⟨f, rfl⟩ : ∃ q, f = q + 1 := ⟨f - 1, by omega⟩
      rw [lst, if_neg (by omega), if_neg (by rw [hp1]; decide), hk3, if_neg (by omega), hr, hki, lst_runs P (n - 1) (i + 1 + 1) (by omega) f g (by omega) (by rw [hki] at hlen; exact hlen)]
      rfl
def refList (F : Nat → Bool) : List UInt8 :=
 [91] ++ onlyP F 93 [93] ++ lst (leftF F) 257 0 ++ onlyP F 10 [92, 110] ++ onlyP F 91 [91] ++ onlyP F 92 [92] ++ (if bytesL F = [45, 94] then [45, 94, 93] else onlyP F 94 [94] ++ onlyP F 45 [45] ++ [93])
theorem lst_all (F : Nat → Bool) : lst (leftF F) 257 0 = runsP 257 (bytesL (leftF F)) := by
 rw [bytesL_from]
 refine lst_runs _ 256 0 (by omega) 257 257 (by omega) ?_
 rw [← bytesL_from, bytesL_len]
 have := cnt_le (leftF F) 256
 omega
end Go.Proofs.YtkcbknfhckomcaaGreatDoor
namespace Go.Proofs.YtkcbknfhckomcaaGreatDoor
open Go.RowKit Go.Lib
theorem rstr_one (m : Nat) (hm : m < 256) : strOfNums [(m : Int)] = ⟨#[UInt8.ofNat m]⟩ := by
 apply ByteArray.ext
 apply Array.ext'
 rw [strOfNums_data]
 simp
theorem rconv1 (m : Nat) (hm : m < 256) (b : Nat) (W : World) (hc : W.cell? ⟨b, 0, none⟩ = some (.int .u8 (m : Int))) :
  (convert 97 9 (.slice (some ⟨b, 0, none⟩) 1 1)).run Tryz.prog W = .ok (.string ⟨#[UInt8.ofNat m]⟩) W := by
 rw [← rstr_one m hm]
 refine run_convert_bytes_arg W 97 5 Tryz.underlying97 Tryz.underlying5 b 0 1 1 [(m : Int)] rfl (fun i hi => ?_) _ Tryz.underlying9
 obtain rfl : i = 0 := by omega
 simpa using hc
theorem rconv3 (m n : Nat) (hm : m < 256) (hn : n < 256) (b : Nat) (W : World) (h0 : W.cell? ⟨b, 0, none⟩ = some (.int .u8 (m : Int))) (h1 : W.cell? ⟨b, 1, none⟩ = some (.int .u8 45)) (h2 : W.cell? ⟨b, 2, none⟩ = some (.int .u8 (n : Int))) :
  (convert 97 9 (.slice (some ⟨b, 0, none⟩) 3 3)).run Tryz.prog W = .ok (.string ⟨#[UInt8.ofNat m, 45, UInt8.ofNat n]⟩) W := by
 have e : strOfNums [(m : Int), 45, (n : Int)] = ⟨#[UInt8.ofNat m, 45, UInt8.ofNat n]⟩ := by
  apply ByteArray.ext
  apply Array.ext'
  rw [strOfNums_data]
  simp
 rw [← e]
 refine run_convert_bytes_arg W 97 5 Tryz.underlying97 Tryz.underlying5 b 0 3 3 [(m : Int), 45, (n : Int)] rfl (fun i hi => ?_) _ Tryz.underlying9
 rcases (by omega : i = 0 ∨ i = 1 ∨ i = 2) with rfl | rfl | rfl
 ·simpa using h0
 ·simpa using h1
 ·simpa using h2
theorem rin_c (s : List UInt8) (hs : s.length ≤ 1000) (c : Nat) (hc : c < 256) (w : World) :
  Calls Tryz.prog 78 #[.string ⟨s.toArray⟩, .int .u8 (c : Int)] w fun e w' => e = .returned (.bool (inL s c)) ∧ Below w.heap.size w w' := by
 have hsz : (⟨s.toArray⟩ : ByteArray).size = s.length := by simp [ByteArray.size]
 obtain ⟨r, hr⟩ : ∃ r, r = inL s c := ⟨_, rfl⟩
 rw [← hr]
 have HR := Lib.hid hr
 clear hr
 go_enter Tryz.func78, Tryz.ntmps78
 go_wp2
 go_loopw [5] (fun iv wr => ∃ k : Nat, k ≤ s.length ∧ iv = .int .i64 (k : Int) ∧ (∀ (j : Nat) (b : UInt8), j < k → s[j]? = some b → b.toNat ≠ c) ∧ Below w.heap.size w wr) (fun iv _ => s.length - (RowKit.intOf iv).toNat)
 case atStart => exact ⟨0, by omega, rfl, fun j b hj => absurd hj (by omega), Below.refl _ _⟩
 case round =>
  obtain ⟨k, hk, rfl, hg, hB⟩ := hrel
  have HG := Lib.hid hg
  clear hg
  by_cases hlt : k < s.length
  ·have zl : ((k : Int) < s.length) = True := by simp; omega
   obtain ⟨b, hb⟩ : ∃ b, s[k]? = some b := ⟨_, List.getElem?_eq_getElem hlt⟩
   have hx := fun W => ixl_c s k b hb W
   by_cases he : b.toNat = c
   ·have hbe : ((b.toNat : Int) == (c : Int)) = true := by rw [he]; simp
    have hrt : r = true := by
     rw [HR.out]
     unfold inL
     rw [List.any_eq_true]
     exact ⟨b, List.mem_of_getElem? hb, by simp [he]⟩
    subst hrt
    subst he
    clear HG HR hb
    go_wp2
    go_ret
    exact ⟨rfl, hB⟩
   ·have hbe : ((b.toNat : Int) == (c : Int)) = false := by rw [beq_eq_false_iff_ne]; omega
    have HN := Lib.hid (fun j d (hj : j < k + 1) hd => by
     by_cases e : j = k
     ·subst e; rw [hb] at hd; cases hd; exact he
     ·exact HG.out j d (by omega) hd : ∀ (j : Nat) (d : UInt8), j < k + 1 → s[j]? = some d → d.toNat ≠ c)
    clear HG HR hb he
    go_wp2
    go_roundw
    case rel => exact ⟨k + 1, by omega, rfl, HN.out, hB⟩
    case measure => (simp [RowKit.intOf] <;> omega)
  ·obtain rfl : k = s.length := by omega
   have zl : ((s.length : Int) < s.length) = False := by simp
   have hrf : r = false := by
    rw [HR.out]
    unfold inL
    rw [List.any_eq_false]
    intro b hb
    obtain ⟨j, hj, e⟩ := List.mem_iff_getElem.1 hb
    have := HG.out j b hj (by rw [List.getElem?_eq_getElem hj, e])
    simpa using this
   subst hrf
   clear HG HR
   go_wp2
   go_ret
   exact ⟨rfl, hB⟩
theorem rspecial_c (c : Nat) (hc : c < 256) (w : World) :
  Calls Tryz.prog 70 #[.int .u8 (c : Int), .string ⟨#[46, 91, 92, 42, 94, 36]⟩] w fun e w' => e = .returned (.string ⟨(showOneP (UInt8.ofNat c)).toArray⟩) ∧ Below w.heap.size w w' := by
 have HI := Lib.hid fun w => rin_c [46, 91, 92, 42, 94, 36] (by decide) c hc w
 have hco : (UInt8.ofNat c).toNat = c := by rw [UInt8.toNat_ofNat']; omega
 have HC := Lib.hid fun b W h => rconv1 c hc b W h
 have hal : ∀ T, Below w.heap.size w (w.alloc (.cells #[.int .u8 (c : Int)] T)) := fun T => (Below.refl _ w).alloc (Nat.le_refl _) _
 by_cases h10 : c = 10
 ·subst h10
  have hr : showOneP (UInt8.ofNat 10) = [92, 110] := rfl
  rw [hr]
  clear hr HI HC
  go_enter Tryz.func70, Tryz.ntmps70
  go_wp2
  go_ret
  exact ⟨rfl, Below.refl _ _⟩
 ·have hq : ((c : Int) == 10) = false := by rw [beq_eq_false_iff_ne]; omega
  have h10' : ¬ UInt8.ofNat c = 10 := fun e => h10 (by have := congrArg UInt8.toNat e; rw [hco] at this; exact this)
  have hin : inL [46, 91, 92, 42, 94, 36] c = decide (UInt8.ofNat c ∈ ([46, 91, 92, 42, 94, 36] : List UInt8)) := by
   unfold inL
   rw [Bool.eq_iff_iff, List.any_eq_true, decide_eq_true_iff]
   constructor
   ·rintro ⟨b, hb, e⟩
    have : b = UInt8.ofNat c := UInt8.toNat_inj.1 (by rw [hco]; simpa using e)
    rw [← this]; exact hb
   ·intro h
    exact ⟨_, h, by simp [hco]⟩
  rw [hin] at HI
  by_cases hm : UInt8.ofNat c ∈ ([46, 91, 92, 42, 94, 36] : List UInt8)
  ·have hr : showOneP (UInt8.ofNat c) = [92, UInt8.ofNat c] := by unfold showOneP; rw [if_neg h10', if_pos hm]
   rw [decide_eq_true hm] at HI
   rw [hr]
   clear hr hin hm h10'
   go_enter Tryz.func70, Tryz.ntmps70
   go_wp2_with fail
   refine (HI.out _).mono ?_
   rintro e w1 ⟨rfl, hB1⟩
   have hcv := HC.out w1.heap.size (w1.alloc (.cells #[.int .u8 (c : Int)] 5)) (cell_of _ _ _ _ (heap_new w1 _) 0)
   have hb := hB1.alloc hB1.size (.cells #[.int .u8 (c : Int)] 5)
   clear HI HC hB1
   go_wp2
   go_ret
   exact ⟨rfl, hb⟩
  ·have hr : showOneP (UInt8.ofNat c) = [UInt8.ofNat c] := by unfold showOneP; rw [if_neg h10', if_neg hm]
   rw [decide_eq_false hm] at HI
   rw [hr]
   clear hr hin hm h10'
   go_enter Tryz.func70, Tryz.ntmps70
   go_wp2_with fail
   refine (HI.out _).mono ?_
   rintro e w1 ⟨rfl, hB1⟩
   have hcv := HC.out w1.heap.size (w1.alloc (.cells #[.int .u8 (c : Int)] 5)) (cell_of _ _ _ _ (heap_new w1 _) 0)
   have hb := hB1.alloc hB1.size (.cells #[.int .u8 (c : Int)] 5)
   clear HI HC hB1
   go_wp2
   go_ret
   exact ⟨rfl, hb⟩
theorem rszL_c (f : Nat → Bool) (w : World) :
  Calls Tryz.prog 69 #[bv f] w fun e w' => e = .returned (.int .i64 (cnt f 256 : Nat)) ∧ Below w.heap.size w w' := by
 have HB := Lib.hid fun w => rbytes_c f w
 have h0 := Row.new w f
 have hz := bytesOf_size f
 have hcn := cnt_le f 256
 have hb0 : Below w.heap.size w (w.alloc (.cells (barr f) 66)) := (Below.refl _ w).alloc (Nat.le_refl _) _
 generalize bytesOf f = BB at *
 generalize cnt f 256 = n at *
 unfold bv at HB ⊢
 go_enter Tryz.func69, Tryz.ntmps69
 go_wp2
 refine wp_load_row h0 rfl rfl ?_
 go_wp2_with fail
 refine (HB.out _).mono ?_
 rintro e w1 ⟨rfl, hB⟩
 have hb := hb0.trans (hB.mono hb0.size)
 clear HB hB hb0
 go_wp2
 go_ret
 exact ⟨rfl, hb⟩
end Go.Proofs.YtkcbknfhckomcaaGreatDoor
namespace Go.Proofs.YtkcbknfhckomcaaGreatDoor
open Go.RowKit Go.Lib
structure LsAt (w : World) (F : Nat → Bool) (base : List UInt8) (k fu : Nat) (O : ByteArray) (wr : World) : Prop where
 kl : k ≤ 256
 f : 256 < fu + k
 eq : O.data.toList ++ lst (leftF F) fu k = base ++ lst (leftF F) 257 0
 sz : O.size ≤ 2 + 3 * k
 row : Row wr w.heap.size F
 bel : Below w.heap.size w wr
theorem LsAt.below {w wr w' : World} {F : Nat → Bool} {base : List UInt8} {k fu : Nat} {O : ByteArray} (h : LsAt w F base k fu O wr) (hB : Below wr.heap.size wr w') : LsAt w F base k fu O w' :=
 ⟨h.kl, h.f, h.eq, h.sz, h.row.below hB h.row.lt, h.bel.trans (hB.mono h.bel.size)⟩
theorem aside_in (j : Nat) : inL [93, 91, 92, 94, 45, 10] j = (j == 93 || j == 91 || j == 92 || j == 94 || j == 45 || j == 10) := by
 rw [Bool.eq_iff_iff]
 simp [inL]
 omega
theorem aside_eq2 (j : Nat) : inS ⟨#[93, 91, 92, 94, 45, 10]⟩ 6 j = inL [93, 91, 92, 94, 45, 10] j := by
 rw [aside_in, Bool.eq_iff_iff]
 simp [inS]
 omega
theorem left_eq (F : Nat → Bool) (j : Nat) : leftF F j = (F j && !inL [93, 91, 92, 94, 45, 10] j) := by unfold leftF; rw [aside_eq2]
theorem LsAt.skip {w wr : World} {F : Nat → Bool} {base : List UInt8} {k fu : Nat} {O : ByteArray} (h : LsAt w F base k fu O wr) (hk : k < 256) (hp : leftF F k = false) : LsAt w F base (k + 1) (fu - 1) O wr := by
 obtain ⟨f, rfl⟩ : ∃ f, fu = f + 1 := ⟨fu - 1, by have := h.f; omega⟩
 have h1 := h.eq
 rw [lst, if_neg (by omega), if_pos hp] at h1
 exact ⟨by omega, by have := h.f; omega, h1, by have := h.sz; omega, h.row, h.bel⟩
theorem LsAt.one {w wr : World} {F : Nat → Bool} {base : List UInt8} {k fu : Nat} {O : ByteArray} (h : LsAt w F base k fu O wr) (hk : k < 256) (hp : leftF F k = true) (hr : ¬ k + 2 ≤ runTo (leftF F) 256 k) : LsAt w F base (k + 1) (fu - 1) (O ++ ⟨#[UInt8.ofNat k]⟩) wr := by
 obtain ⟨f, rfl⟩ : ∃ f, fu = f + 1 := ⟨fu - 1, by have := h.f; omega⟩
 have h1 := h.eq
 rw [lst, if_neg (by omega), if_neg (by rw [hp]; decide), if_neg hr] at h1
 refine ⟨by omega, by have := h.f; omega, ?_, ?_, h.row, h.bel⟩
 ·rw [← h1]
  simp
 ·have := h.sz
  have e : (O ++ (⟨#[UInt8.ofNat k]⟩ : ByteArray)).size = O.size + 1 := by rw [ByteArray.size_append]; rfl
  rw [e]; omega
theorem LsAt.three {w wr : World} {F : Nat → Bool} {base : List UInt8} {k fu : Nat} {O : ByteArray} (h : LsAt w F base k fu O wr) (hk : k < 256) (hp : leftF F k = true) (hr : k + 2 ≤ runTo (leftF F) 256 k) : LsAt w F base (runTo (leftF F) 256 k + 1) (fu - 1) (O ++ ⟨#[UInt8.ofNat k, 45, UInt8.ofNat (runTo (leftF F) 256 k)]⟩) wr := by
 obtain ⟨f, rfl⟩ : ∃ f, fu = f + 1 := ⟨fu - 1, by have := h.f; omega⟩
 have h1 := h.eq
 rw [lst, if_neg (by omega), if_neg (by rw [hp]; decide), if_pos hr] at h1
 have hlt := runTo_lt (leftF F) 256 k hk
 refine ⟨by omega, by have := h.f; omega, ?_, ?_, h.row, h.bel⟩
 ·rw [← h1]
  simp
 ·have := h.sz
  have e : (O ++ (⟨#[UInt8.ofNat k, 45, UInt8.ofNat (runTo (leftF F) 256 k)]⟩ : ByteArray)).size = O.size + 3 := by rw [ByteArray.size_append]; rfl
  rw [e]; omega
theorem runTo_stop {P : Nat → Bool} {d j R : Nat} (h : runTo P d j = R) (hs : ¬ (j + 1 < 256 ∧ P (j + 1) = true)) : R = j := by
 cases d with
 | zero => exact h.symm
 | succ d => rw [runTo, if_neg hs] at h; exact h.symm
theorem runTo_next {P : Nat → Bool} {d j R : Nat} (h : runTo P d j = R) (hd : 256 ≤ d + j) (h1 : j + 1 < 256) (h2 : P (j + 1) = true) : runTo P (d - 1) (j + 1) = R := by
 obtain ⟨d, rfl⟩ : ∃ q, d = q + 1 := ⟨d - 1, by omega⟩
 rw [runTo, if_pos ⟨h1, h2⟩] at h
 exact h
end Go.Proofs.YtkcbknfhckomcaaGreatDoor
namespace Go.Proofs.YtkcbknfhckomcaaGreatDoor
open Go.RowKit Go.Lib
theorem sl2_c (s : List UInt8) (p : Nat) (hp : p + 2 ≤ s.length) (W : World) : (Instr.slice 9 (.string ⟨s.toArray⟩) (some (.int .i64 (p : Int))) (some (.int .i64 ((p : Int) + 2))) none).run Tryz.prog W = .ok (.string ⟨((s.drop p).take 2).toArray⟩) W := by
 have hs : (⟨s.toArray⟩ : ByteArray).size = s.length := by simp [ByteArray.size]
 have e : (⟨s.toArray⟩ : ByteArray).extract (p : Int).toNat ((p : Int) + 2).toNat = ⟨((s.drop p).take 2).toArray⟩ := by
  apply ByteArray.ext
  apply Array.ext'
  simp [ByteArray.data_extract]
  omega
 rw [run_slice_string_if (P := Tryz.prog) W 9 _ .i64 .i64 (p : Int) ((p : Int) + 2) Tryz.underlying9, if_pos ⟨by omega, by rw [hs]; omega⟩, if_pos ⟨by omega, by omega⟩, e]
theorem take_two {s : List UInt8} {p : Nat} {c d : UInt8} : ((s.drop p).take 2 = [c, d]) ↔ ah s p [c, d] = true := by
 unfold ah
 cases h : s.drop p with
 | nil => simp [List.isPrefixOf]
 | cons x r =>
  cases r with
  | nil => simp [List.isPrefixOf]
  | cons y r =>
   simp [List.isPrefixOf]
   constructor
   ·rintro ⟨rfl, rfl⟩; exact ⟨rfl, rfl⟩
   ·rintro ⟨rfl, rfl⟩; exact ⟨rfl, rfl⟩
theorem two_eq (s : List UInt8) (p : Nat) (c d : UInt8) : ((⟨((s.drop p).take 2).toArray⟩ : ByteArray).toList == [c, d]) = ah s p [c, d] := by
 rw [ByteArray.toList_eq, Bool.eq_iff_iff, beq_iff_eq]
 simp only [List.toList_toArray]
 exact take_two
theorem slm_c (s : List UInt8) (p q : Nat) (hp : p ≤ q) (hq : q ≤ s.length) (W : World) : (Instr.slice 9 (.string ⟨s.toArray⟩) (some (.int .i64 (p : Int))) (some (.int .i64 (q : Int))) none).run Tryz.prog W = .ok (.string ⟨((s.drop p).take (q - p)).toArray⟩) W := by
 have hs : (⟨s.toArray⟩ : ByteArray).size = s.length := by simp [ByteArray.size]
 have e : (⟨s.toArray⟩ : ByteArray).extract (p : Int).toNat (q : Int).toNat = ⟨((s.drop p).take (q - p)).toArray⟩ := by
  apply ByteArray.ext
  apply Array.ext'
  simp [ByteArray.data_extract, List.drop_take]
 rw [run_slice_string_if (P := Tryz.prog) W 9 _ .i64 .i64 (p : Int) (q : Int) Tryz.underlying9, if_pos ⟨by omega, by rw [hs]; omega⟩, if_pos ⟨by omega, by omega⟩, e]
end Go.Proofs.YtkcbknfhckomcaaGreatDoor
