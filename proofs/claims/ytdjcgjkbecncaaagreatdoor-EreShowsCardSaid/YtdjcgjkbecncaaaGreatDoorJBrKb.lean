/- A number of times as it is written: timesOf. -/
import Derived.Test.YtdjcgjkbecncaaaGreatDoorJBrIe
import Derived.Test.YtdjcgjkbecncaaaGreatDoorJShelf
import Derived.Lib.AppendIntMem
import Derived.Lib.ItoaLen
import Derived.Test.YtdjcgjkbecncaaaGreatDoorJBrP
import Derived.Test.YtdjcgjkbecncaaaGreatDoorJRxTd
import Derived.Test.YtdjcgjkbecncaaaGreatDoorJRxLe
set_option linter.unusedVariables false
set_option linter.unusedSimpArgs false
set_option maxRecDepth 100000
set_option maxHeartbeats 40000000
namespace Go.Proofs.YtdjcgjkbecncaaaGreatDoor
open Go.RowKit Go.Lib
abbrev Pow (w : World) : Prop := Lib.TabIs Tryz.prog w "internal/strconv.uint64pow10" .u64 Lib.pow10Tab
theorem Pow.below {w w' : World} (h : Pow w) (hB : Below w.heap.size w w') : Pow w' := Lib.tabBelow_of_tabIs h w' hB
theorem itoab_c (n : Int) (h0 : -9223372036854775808 ≤ n) (h1 : n ≤ 9223372036854775807) (w : World) (h : Pow w) :
  Calls Tryz.prog 79 #[.int .i64 n] w fun e w' => e = .returned (.string ⟨(itoa n).toArray⟩) ∧ Below w.heap.size w w' := by
 refine (Tryz.strconv_Itoa n h0 h1 w h).mono ?_
 rintro e w' ⟨rfl, k, os, rfl⟩
 exact ⟨rfl, Lib.below_grow _ _ (Nat.le_refl _) k os⟩
def timesT (m M : Int) : List UInt8 :=
 if m = 0 ∧ M = -1 then [42] else
 [92, 123] ++ (if M = m then itoa m else if M = -1 then itoa m ++ [44] else itoa m ++ [44] ++ itoa M) ++ [92, 125]
theorem times_show (m M : Int) (h1 : -9223372036854775808 ≤ m) (h2 : m ≤ 9223372036854775807) (h3 : -9223372036854775808 ≤ M) (h4 : M ≤ 9223372036854775807) (w : World) (hw : Pow w) :
  Calls Tryz.prog 155 #[.int .i64 m, .int .i64 M] w fun e w' => e = .returned (.string ⟨(timesT m M).toArray⟩) ∧ Below w.heap.size w w' := by
 by_cases hz : m = 0 ∧ M = -1
 ·obtain ⟨rfl, rfl⟩ := hz
  go_enter Tryz.func155, Tryz.ntmps155
  go_wp2
  go_ret
  exact ⟨rfl, Below.refl _ _⟩
 ·have HI := Lib.hid fun w h => itoab_c m h1 h2 w h
  have HJ := Lib.hid fun w h => itoab_c M h3 h4 w h
  have hl := itoa_length_le m h1 h2
  have hl' := itoa_length_le M h3 h4
  have e2 : timesT m M = [92, 123] ++ (if M = m then itoa m else if M = -1 then itoa m ++ [44] else itoa m ++ [44] ++ itoa M) ++ [92, 125] := by unfold timesT; rw [if_neg hz]
  obtain ⟨H, hH⟩ : ∃ H : ByteArray, H = ⟨(itoa m).toArray⟩ := ⟨_, rfl⟩
  obtain ⟨J, hJ⟩ : ∃ H : ByteArray, H = ⟨(itoa M).toArray⟩ := ⟨_, rfl⟩
  have hs : H.size ≤ 21 := by rw [hH]; simpa [ByteArray.size] using hl
  have hs' : J.size ≤ 21 := by rw [hJ]; simpa [ByteArray.size] using hl'
  rw [← hH] at HI
  rw [← hJ] at HJ
  have HD := Lib.hid (show H.data.toList = itoa m by rw [hH])
  have HE := Lib.hid (show J.data.toList = itoa M by rw [hJ])
  have hne : (m == 0) = false ∨ ((m == 0) = true ∧ (M == -1) = false) := by
   by_cases e : m = 0
   ·exact .inr ⟨by simp [e], by simp; exact fun t => hz ⟨e, t⟩⟩
   ·exact .inl (by simp [e])
  have H3 := Lib.hid hw
  have E2 := Lib.hid e2
  clear hH hl hJ hl' hz hw e2
  by_cases hmM : M = m
  ·subst hmM
   have HE2 := Lib.hid (show timesT M M = [92, 123] ++ H.data.toList ++ [92, 125] by rw [E2.out, if_pos rfl, HD.out])
   clear E2 HJ HE HD hs'
   rcases hne with q1 | ⟨q1, q2⟩
   all_goals (
    go_enter Tryz.func155, Tryz.ntmps155
    go_wp2_with fail
    refine (HI.out _ H3.out).mono ?_
    rintro e w1 ⟨rfl, hB1⟩
    go_wp2
    go_ret
    refine ⟨(congrArg (fun t : ByteArray => Ending.returned (Value.string t)) (?_ : (⟨#[92, 123]⟩ : ByteArray) ++ H ++ ⟨#[92, 125]⟩ = ⟨(timesT M M).toArray⟩)), hB1⟩
    apply Go.WideShapes.bytes_inj
    rw [HE2.out]
    simp)
  ·have q0 : (M == m) = false := by simp [hmM]
   by_cases hM1 : M = -1
   ·subst hM1
    have q1 : (m == 0) = false := by rcases hne with q | ⟨_, q⟩; exact q; cases q
    have HE2 := Lib.hid (show timesT m (-1) = [92, 123] ++ (H.data.toList ++ [44]) ++ [92, 125] by rw [E2.out, if_neg hmM, if_pos rfl, HD.out])
    clear E2 HJ HE HD hs' hmM hne
    go_enter Tryz.func155, Tryz.ntmps155
    go_wp2_with fail
    refine (HI.out _ H3.out).mono ?_
    rintro e w1 ⟨rfl, hB1⟩
    go_wp2
    go_ret
    refine ⟨(congrArg (fun t : ByteArray => Ending.returned (Value.string t)) (?_ : (⟨#[92, 123]⟩ : ByteArray) ++ (H ++ ⟨#[44]⟩) ++ ⟨#[92, 125]⟩ = ⟨(timesT m (-1)).toArray⟩)), hB1⟩
    apply Go.WideShapes.bytes_inj
    rw [HE2.out]
    simp
   ·have q2 : (M == -1) = false := by simp [hM1]
    have HE2 := Lib.hid (show timesT m M = [92, 123] ++ (H.data.toList ++ [44] ++ J.data.toList) ++ [92, 125] by rw [E2.out, if_neg hmM, if_neg hM1, HD.out, HE.out])
    clear E2 HE HD hmM hM1
    rcases hne with q1 | ⟨q1, q3⟩
    all_goals (
     go_enter Tryz.func155, Tryz.ntmps155
     go_wp2_with fail
     refine (HI.out _ H3.out).mono ?_
     rintro e w1 ⟨rfl, hB1⟩
     have hP1 := Pow.below H3.out hB1
     go_wp2_with fail
     refine (HJ.out _ hP1).mono ?_
     rintro e w2 ⟨rfl, hB2⟩
     have hB := hB1.trans (hB2.mono hB1.size)
     clear hB1 hB2 hP1
     go_wp2
     go_ret
     refine ⟨(congrArg (fun t : ByteArray => Ending.returned (Value.string t)) (?_ : (⟨#[92, 123]⟩ : ByteArray) ++ (H ++ (⟨#[44]⟩ ++ J)) ++ ⟨#[92, 125]⟩ = ⟨(timesT m M).toArray⟩)), hB⟩
     apply Go.WideShapes.bytes_inj
     rw [HE2.out]
     simp)
end Go.Proofs.YtdjcgjkbecncaaaGreatDoor
namespace Go.Proofs.YtdjcgjkbecncaaaGreatDoor
open Go.RowKit Go.Lib
def runLen : List UInt8 → Nat
 | [] => 0
 | [_] => 1
 | a :: b :: l => if b = a + 1 then runLen (b :: l) + 1 else 1
theorem runLen_pos (c : UInt8) (l : List UInt8) : 1 ≤ runLen (c :: l) := by
 cases l with
 | nil => simp [runLen]
 | cons b l => simp only [runLen]; split <;> omega
theorem runLen_le : ∀ l : List UInt8, runLen l ≤ l.length
 | [] => by simp [runLen]
 | [_] => by simp [runLen]
 | a :: b :: l => by
  have := runLen_le (b :: l)
  simp only [runLen, List.length_cons] at *
  split <;> omega
theorem runLen_more : ∀ (l : List UInt8) (n : Nat), n + 1 < runLen l → ∃ a, l[n]? = some a ∧ l[n + 1]? = some (a + 1)
 | [], n, h => by simp [runLen] at h
 | [_], n, h => by simp [runLen] at h
 | a :: b :: l, n, h => by
  simp only [runLen] at h
  split at h
  ·rename_i e
   cases n with
   | zero => exact ⟨a, rfl, by rw [← e]; rfl⟩
   | succ n => exact runLen_more (b :: l) n (by omega)
  ·omega
theorem runLen_stop : ∀ (l : List UInt8) (n : Nat) (a b : UInt8), n + 1 = runLen l → l[n]? = some a → l[n + 1]? = some b → b ≠ a + 1
 | [], n, a, b, h, ha, hb => by simp at ha
 | [_], n, a, b, h, ha, hb => by simp at hb
 | x :: y :: l, n, a, b, h, ha, hb => by
  simp only [runLen] at h
  split at h
  ·rename_i e
   cases n with
   | zero => have := runLen_pos y l; omega
   | succ n => exact runLen_stop (y :: l) n a b (by omega) ha hb
  ·rename_i e
   obtain rfl : n = 0 := by omega
   simp at ha hb
   subst ha; subst hb
   exact e
def runsP : Nat → List UInt8 → List UInt8
 | 0, _ => []
 | _ + 1, [] => []
 | f + 1, c :: l => (if runLen (c :: l) < 3 then (c :: l).take (runLen (c :: l)) else [c, 45] ++ ((c :: l).drop (runLen (c :: l) - 1)).take 1) ++ runsP f ((c :: l).drop (runLen (c :: l)))
theorem runsP_len : ∀ (f : Nat) (l : List UInt8), (runsP f l).length ≤ l.length
 | 0, _ => by simp [runsP]
 | _ + 1, [] => by simp [runsP]
 | f + 1, c :: l => by
  have h1 := runsP_len f ((c :: l).drop (runLen (c :: l)))
  have h2 := runLen_le (c :: l)
  have h3 := runLen_pos c l
  simp only [runsP]
  rw [List.length_append]
  rw [List.length_drop] at h1
  split
  ·rw [List.length_take]; omega
  ·rw [List.length_append, List.length_take]
   simp only [List.length_cons, List.length_nil] at *
   omega
def bytesL (F : Nat → Bool) : List UInt8 := (bytesOf F).data.toList
theorem bytesL_len (F : Nat → Bool) : (bytesL F).length = cnt F 256 := by
 have h1 : (bytesOf F).data.toList.length = (bytesOf F).size := by simp
 exact h1.trans (bytesOf_size F)
def hatDash (F : Nat → Bool) : Bool := decide (wd F 0 = wd (inS ⟨#[94, 45]⟩ 2) 0 ∧ wd F 1 = wd (inS ⟨#[94, 45]⟩ 2) 1 ∧ wd F 2 = wd (inS ⟨#[94, 45]⟩ 2) 2 ∧ wd F 3 = wd (inS ⟨#[94, 45]⟩ 2) 3)
def leftF (F : Nat → Bool) : Nat → Bool := fun i => F i && !inS ⟨#[93, 91, 92, 94, 45, 10]⟩ 6 i
def onlyP (F : Nat → Bool) (c : Nat) (t : List UInt8) : List UInt8 := if F c then t else []
def listP (F : Nat → Bool) : List UInt8 :=
 if hatDash F then [45, 94] else
 onlyP F 93 [93] ++ runsP 257 (bytesL (leftF F)) ++ onlyP F 10 [92, 110] ++ onlyP F 91 [91] ++ onlyP F 92 [92] ++ onlyP F 94 [94] ++ onlyP F 45 [45]
def showP (F : Nat → Bool) : List UInt8 :=
 if cnt F 256 = 0 then [] else
 if cnt F 256 = 1 then (match bytesL F with | [c] => showOneP c | _ => []) else
 if cnt F 256 = 256 then [46] else [91] ++ listP F ++ [93]
theorem onlyP_len (F : Nat → Bool) (c : Nat) (t : List UInt8) : (onlyP F c t).length ≤ t.length := by
 unfold onlyP; split <;> simp
theorem listP_len (F : Nat → Bool) : (listP F).length ≤ 300 := by
 unfold listP
 split
 ·simp
 ·have h1 := runsP_len 257 (bytesL (leftF F))
  have h2 := bytesL_len (leftF F)
  have h3 := cnt_le (leftF F) 256
  have a1 := onlyP_len F 93 [93]
  have a2 := onlyP_len F 10 [92, 110]
  have a3 := onlyP_len F 91 [91]
  have a4 := onlyP_len F 92 [92]
  have a5 := onlyP_len F 94 [94]
  have a6 := onlyP_len F 45 [45]
  simp only [List.length_append, List.length_cons, List.length_nil] at *
  omega
theorem showP_len (F : Nat → Bool) : (showP F).length ≤ 302 := by
 unfold showP
 have := listP_len F
 split
 ·simp
 ·split
  ·split
   ·unfold showOneP; split; simp; split <;> simp
   ·simp
  ·split
   ·simp
   ·simp only [List.length_append, List.length_cons, List.length_nil]; omega
def textT : T → List UInt8
 | .leaf x => if x.kind = 1 then showP x.set else if x.kind = 2 then [94] else if x.kind = 3 then [36] else if x.kind = 8 then [92] ++ itoa x.n else []
 | .two k a b => if k = 4 then textT a ++ textT b else [124]
 | .times m M t => textT t ++ timesT m M
 | .group _ t => [92, 40] ++ textT t ++ [92, 41]
theorem timesT_len (m M : Int) (h1 : -9223372036854775808 ≤ m) (h2 : m ≤ 9223372036854775807) (h3 : -9223372036854775808 ≤ M) (h4 : M ≤ 9223372036854775807) : (timesT m M).length ≤ 60 := by
 have a := itoa_length_le m h1 h2
 have b := itoa_length_le M h3 h4
 unfold timesT
 split
 ·simp
 ·split
  ·simp only [List.length_append, List.length_cons, List.length_nil]; omega
  ·split <;> (simp only [List.length_append, List.length_cons, List.length_nil]; omega)
theorem textT_len : ∀ t : T, t.Ok → (textT t).length ≤ 400 * t.size
 | .leaf x, h => by
  obtain ⟨hn, k⟩ := h
  show (textT (.leaf x)).length ≤ 400 * 1
  rcases k with k | k | k | k | k
  ·simp [textT, k]
  ·have := showP_len x.set
   simp [textT, k]; omega
  ·simp [textT, k]
  ·simp [textT, k]
  ·have h0 := num_of (isNd_ref hn k).1
   have h1 := itoa_length_le x.n (by omega) (by omega)
   simp [textT, k]; omega
 | .two k a b, h => by
  have h1 := textT_len a h.2.1
  have h2 := textT_len b h.2.2
  simp only [textT, T.size]
  split
  ·rw [List.length_append]; omega
  ·simp only [List.length_cons, List.length_nil]; omega
 | .times m M t, h => by
  have h0 := h.1
  unfold isCnt at h0
  have h3 := textT_len t h.2
  have h4 : 0 ≤ m ∧ m ≤ 255 ∧ -1 ≤ M ∧ M ≤ 255 := by
   split at h0
   ·cases h0
   ·have := of_decide_eq_true h0
    omega
  have h5 := timesT_len m M (by omega) (by omega) (by omega) (by omega)
  simp only [textT, T.size, List.length_append]; omega
 | .group n t, h => by
  have h3 := textT_len t h.2
  simp only [textT, T.size, List.length_cons, List.length_append, List.length_nil]; omega
end Go.Proofs.YtdjcgjkbecncaaaGreatDoor
namespace Go.Proofs.YtdjcgjkbecncaaaGreatDoor
open Go.RowKit
theorem ixl_c (s : List UInt8) (p : Nat) (c : UInt8) (hc : s[p]? = some c) (W : World) : (Instr.index 9 (.string ⟨s.toArray⟩) (.int .i64 (p : Int))).run Tryz.prog W = .ok (.int .u8 (c.toNat : Int)) W := by
 have hsz : (⟨s.toArray⟩ : ByteArray).size = s.length := by simp [ByteArray.size]
 obtain ⟨hk, rfl⟩ := List.getElem?_eq_some_iff.1 hc
 rw [run_index_string (P := Tryz.prog) W 9 _ .i64 p Tryz.underlying9, dif_pos ⟨by omega, by rw [hsz]; omega⟩]
 simp
 rfl
theorem slt_c (s : List UInt8) (k : Nat) (hk : k ≤ s.length) (W : World) : (Instr.slice 9 (.string ⟨s.toArray⟩) none (some (.int .i64 (k : Int))) none).run Tryz.prog W = .ok (.string ⟨(s.take k).toArray⟩) W := by
 have hs : (⟨s.toArray⟩ : ByteArray).size = s.length := by simp [ByteArray.size]
 have e : (⟨s.toArray⟩ : ByteArray).extract 0 k = ⟨(s.take k).toArray⟩ := by
  apply ByteArray.ext
  apply Array.ext'
  simp [ByteArray.data_extract]
 rw [run_slice_string_to_if (P := Tryz.prog) W 9 _ .i64 (k : Int) Tryz.underlying9, if_pos ⟨by omega, by rw [hs]; omega⟩]
 rw [show ((k : Int)).toNat = k by omega, e]
theorem sld_c (s : List UInt8) (k : Nat) (hk : k ≤ s.length) (W : World) : (Instr.slice 9 (.string ⟨s.toArray⟩) (some (.int .i64 (k : Int))) none none).run Tryz.prog W = .ok (.string ⟨(s.drop k).toArray⟩) W := by
 have hsz : (⟨s.toArray⟩ : ByteArray).size = s.length := by simp [ByteArray.size]
 have e : (⟨s.toArray⟩ : ByteArray).extract k s.length = ⟨(s.drop k).toArray⟩ := by rw [← drop_arr, hsz]
 rw [run_slice_string_from_if (P := Tryz.prog) W 9 _ .i64 (k : Int) Tryz.underlying9, if_pos ⟨by omega, by rw [hsz]; omega⟩, hsz]
 rw [show ((k : Int)).toNat = k by omega, e]
def lenOf (v : Value) : Nat := match v with
 | .string s => s.size
 | _ => 0
theorem u8_next (a c : UInt8) : ((c.toNat : Int) == ((a.toNat : Int) + 1) % 256) = decide (c = a + 1) := by
 have e : (a + 1).toNat = (a.toNat + 1) % 256 := by simp [UInt8.toNat_add]
 have e2 : (((a.toNat : Int) + 1) % 256) = ((a + 1).toNat : Int) := by rw [e]; omega
 rw [e2, Bool.eq_iff_iff, beq_iff_eq, decide_eq_true_iff]
 constructor
 ·intro h
  exact UInt8.toNat_inj.1 (by omega)
 ·intro h
  rw [h]
theorem runsP_step (u : List UInt8) (hu : u ≠ []) (f k : Nat) (hk : k + 1 = runLen u) : runsP (f + 1) u = (if k + 1 < 3 then u.take (k + 1) else u.take 1 ++ [45] ++ (u.drop k).take 1) ++ runsP f (u.drop (k + 1)) := by
 obtain ⟨c, l, rfl⟩ := List.exists_cons_of_ne_nil hu
 simp only [runsP]
 rw [← hk, Nat.add_sub_cancel]
 rfl
structure RunsAt (w : World) (R u : List UInt8) (fu : Nat) (bs : List UInt8) (wr : World) : Prop where
 lt : u.length < fu
 eq : bs ++ runsP fu u = R
 len : bs.length + u.length ≤ 256
 sb : SB w.heap.size w.heap.size (Lib.byteCells bs) wr
 bel : Below w.heap.size w wr
section
variable {R u bs : List UInt8} {w wr : World} {f : Nat}
theorem RunsAt.below {w' : World} {fu : Nat} (h : RunsAt w R u fu bs wr) (hB : Below wr.heap.size wr w') : RunsAt w R u fu bs w' := ⟨h.lt, h.eq, h.len, h.sb.below hB, h.bel.trans (hB.mono h.bel.size)⟩
theorem runs_put (h : RunsAt w R u (f + 1) bs wr) (X : ByteArray) (u' : List UInt8) (hx : runsP (f + 1) u = X.data.toList ++ runsP f u') (hl : X.data.toList.length + u'.length ≤ u.length) (hl' : u'.length < u.length) :
  Calls Tryz.prog 42 #[.pointer (some ⟨w.heap.size, 0, none⟩), .string X] wr fun e w' => e = .returned (.tuple #[.int .i64 X.size, .nilIface]) ∧ RunsAt w R u' f (bs ++ X.data.toList) w' := by
 have hsz : X.size = X.data.toList.length := by simp
 have h1 := h.len
 have h2 := h.lt
 have hc := cells_len bs
 refine (wstr_c w.heap.size w.heap.size (Lib.byteCells bs) X wr h.sb (by omega) h.bel.size).mono ?_
 rintro e w' ⟨rfl, hs, hk⟩
 refine ⟨rfl, by omega, ?_, by rw [List.length_append]; omega, ?_, h.bel.trans hk.1⟩
 ·rw [← h.eq, hx, List.append_assoc]
 ·rw [cells_app]
  exact hs
theorem showruns_c (t : List UInt8) (ht : t.length ≤ 256) (w : World) :
  Calls Tryz.prog 89 #[.string ⟨t.toArray⟩] w fun e w' => e = .returned (.string ⟨(runsP 257 t).toArray⟩) ∧ Below w.heap.size w w' := by
 obtain ⟨R, hRr⟩ : ∃ R, R = runsP 257 t := ⟨_, rfl⟩
 rw [← hRr]
 have hb0 : Below w.heap.size w (w.alloc (.cells #[.pointer none, .slice none 0 0] 82)) := (Below.refl _ w).alloc (Nat.le_refl _) _
 have hsb : SB w.heap.size w.heap.size (Lib.byteCells []) (w.alloc (.cells #[.pointer none, .slice none 0 0] 82)) :=
  .inl ⟨by omega, .slice none 0 0, heap_new _ _, ⟨by simp [Lib.byteCells], .inl ⟨rfl, rfl⟩⟩, by simp [Value.ownBlock]⟩
 have HR0 : RunsAt w R t 257 [] (w.alloc (.cells #[.pointer none, .slice none 0 0] 82)) := ⟨by omega, hRr.symm, by simpa using ht, hsb, hb0⟩
 have HR := Lib.hid HR0
 clear hb0 hsb HR0 hRr
 go_enter Tryz.func89, Tryz.ntmps89
 go_wp2_with fail
 go_loopw [0] (fun tv wr => ∃ (u : List UInt8) (fu : Nat) (bs : List UInt8), tv = .string ⟨u.toArray⟩ ∧ RunsAt w R u fu bs wr) (fun tv _ => lenOf tv)
 case atStart => exact ⟨t, 257, [], rfl, HR.out⟩
 case round =>
  clear HR
  obtain ⟨u, fu, bs, rfl, hR⟩ := hrel
  obtain ⟨f, rfl⟩ : ∃ f, fu = f + 1 := ⟨fu - 1, by have := hR.lt; omega⟩
  have hlen := hR.len
  have hul : u.length ≤ 256 := by omega
  have usz : (⟨u.toArray⟩ : ByteArray).size = u.length := by simp [ByteArray.size]
  by_cases hu : u = []
  ·have hbs : bs = R := by rw [← hR.eq, hu]; simp [runsP]
   have HBS := Lib.hid hbs
   have ST := Lib.hid (Tryz.Builder_String_any_k w.heap.size w.heap.size bs wr hR.sb hR.bel.size)
   have HB := Lib.hid hR.bel
   subst hu
   clear hR hbs
   go_wp2_with fail
   refine ST.out.mono ?_
   rintro e W3 ⟨rfl, _, hB3, _⟩
   go_wp2
   go_ret
   exact ⟨by rw [HBS.out]; rfl, HB.out.trans hB3⟩
  ·have hq : u.isEmpty = false := by
    cases u with
    | nil => exact absurd rfl hu
    | cons c l => rfl
   have hr1 : 1 ≤ runLen u := by
    obtain ⟨c, l, rfl⟩ := List.exists_cons_of_ne_nil hu
    exact runLen_pos c l
   have hr2 := runLen_le u
   have HST := Lib.hid fun k hk => runsP_step u hu f k hk
   have HMO := Lib.hid fun n h => runLen_more u n h
   have HSP := Lib.hid fun n a b h1 h2 h3 => runLen_stop u n a b h1 h2 h3
   have HR := Lib.hid hR
   have HPUT := Lib.hid fun W (h : RunsAt w R u (f + 1) bs W) X u' hx hl hl' => runs_put h X u' hx hl hl'
   have HT4 := Lib.hid fun k hk W => slt_c u k hk W
   have HTD := Lib.hid fun k hk W => sld_c u k hk W
   have HTW := Lib.hid fun p k hp W => slice_two u (by omega) p k hp W
   have HIX := Lib.hid fun p c hc W => ixl_c u p c hc W
   generalize hrr : runLen u = r at *
   clear hrr hu hR
   go_wp2_with fail
   go_loopw [4] (fun nv wi => ∃ k : Nat, k + 1 ≤ r ∧ nv = .int .i64 ((k : Int) + 1) ∧ RunsAt w R u (f + 1) bs wi) (fun nv _ => u.length - (RowKit.intOf nv).toNat)
   case atStart => exact ⟨0, hr1, rfl, HR.out⟩
   case round =>
    clear HR
    obtain ⟨k, hk, rfl, hA⟩ := hrel
    have HA := Lib.hid hA
    clear hA
    have ew1 : IntKind.i64.wrap ((k : Int) + 1 - 1) = (k : Int) := by simp [IntKind.wrap, IntKind.signed, IntKind.bits]; omega
    by_cases hend : k + 1 = u.length
    ·have hkr : k + 1 = r := by omega
     have zl : ((k : Int) + 1 < (u.length : Int)) = False := by simp; omega
     clear HMO HSP HIX hend
     go_wp2_with fail
     go_quiet (fail)
     have HA := Lib.hid (HA.out.below (Go.below_drewN (Below.refl _ _) nq))
     obtain ⟨D, hD⟩ : ∃ D, D = u.drop (k + 1) := ⟨_, rfl⟩
     have hDl : D.length + (k + 1) = u.length := by rw [hD, List.length_drop]; omega
     have hsd : ∀ W, (Instr.slice 9 (.string ⟨u.toArray⟩) (some (.int .i64 ((k : Int) + 1))) none none).run Tryz.prog W = .ok (.string ⟨D.toArray⟩) W := fun W => by rw [hD]; exact HTD.out (k + 1) (by omega) W
     have hst := HST.out k hkr
     rw [← hD] at hst
     have hlm : lenOf (.string ⟨D.toArray⟩) < lenOf (.string ⟨u.toArray⟩) := by simp [lenOf, ByteArray.size]; omega
     have HLM := Lib.hid hlm
     clear hlm hD
     by_cases h3 : k + 1 < 3
     ·have z3 : ((k : Int) + 1 < 3) = True := by simp; omega
      obtain ⟨X, hX⟩ : ∃ X : ByteArray, X = ⟨(u.take (k + 1)).toArray⟩ := ⟨_, rfl⟩
      have hXd : X.data.toList = u.take (k + 1) := by rw [hX]
      have hs4 : ∀ W, (Instr.slice 9 (.string ⟨u.toArray⟩) none (some (.int .i64 ((k : Int) + 1))) none).run Tryz.prog W = .ok (.string X) W := fun W => by rw [hX]; exact HT4.out (k + 1) (by omega) W
      rw [if_pos h3] at hst
      have HWS := Lib.hid (HPUT.out _ HA.out X D (by rw [hXd]; exact hst) (by rw [hXd, List.length_take]; omega) (by omega))
      clear HT4 HTD HTW HST HPUT HA hst hX hXd
      go_wp2_with fail
      refine HWS.out.mono ?_
      rintro e W2 ⟨rfl, hW2⟩
      have HW2 := Lib.hid hW2
      clear HWS hW2
      go_wp2
      go_roundw
      case rel => exact ⟨_, _, _, rfl, HW2.out⟩
      case measure => exact HLM.out
     ·have z3 : ((k : Int) + 1 < 3) = False := by simp; omega
      rw [if_neg h3] at hst
      obtain ⟨P, hP⟩ : ∃ P : ByteArray, P = ⟨(u.take 1).toArray⟩ := ⟨_, rfl⟩
      obtain ⟨Q, hQ⟩ : ∃ P : ByteArray, P = ⟨((u.drop k).take 1).toArray⟩ := ⟨_, rfl⟩
      have hs1 : ∀ W, (Instr.slice 9 (.string ⟨u.toArray⟩) none (some (.int .i64 1)) none).run Tryz.prog W = .ok (.string P) W := fun W => by rw [hP]; exact HT4.out 1 (by omega) W
      have hs2 : ∀ W, (Instr.slice 9 (.string ⟨u.toArray⟩) (some (.int .i64 (k : Int))) (some (.int .i64 ((k : Int) + 1))) none).run Tryz.prog W = .ok (.string Q) W := fun W => by rw [hQ]; exact HTW.out k 1 (by omega) W
      have hPl : P.size ≤ 1 := by rw [hP]; simp [ByteArray.size]; omega
      have hQl : Q.size ≤ 1 := by rw [hQ]; simp [ByteArray.size]; omega
      have hPd : P.data.toList = u.take 1 := by rw [hP]
      have hQd : Q.data.toList = (u.drop k).take 1 := by rw [hQ]
      have hX : (P ++ ⟨#[45]⟩ ++ Q : ByteArray).data.toList = u.take 1 ++ [45] ++ (u.drop k).take 1 := by rw [← hPd, ← hQd]; simp
      have HWS := Lib.hid fun W hW => HPUT.out W hW (P ++ ⟨#[45]⟩ ++ Q) D (by rw [hX]; exact hst) (by rw [hX]; simp; omega) (by omega)
      have ew2 : IntKind.i64.wrap (k : Int) = (k : Int) := by simp [IntKind.wrap, IntKind.signed, IntKind.bits]; omega
      have y1 : (9223372036854775807 < P.size + 1) = False := by simp; omega
      have y2 : (9223372036854775807 < P.size + 1 + Q.size) = False := by simp; omega
      clear HT4 HTD HTW HST HPUT hst hP hQ hPd hQd hX
      go_wp2_with fail
      refine wp_region_held_drew (S := fun w' => True) (by kernel_rfl) trivial (fun hHeld => ?_)
      refine wpAnyH_take (i := 0) (v := ?_) rfl (by kernel_rfl) (by kernel_rfl) (by kernel_rfl) (fun _ _ _ h => h) (Or.inl ⟨by kernel_rfl, ?_⟩) (by assumption) ?_
      rotate_left
      ·(intro w hSw; (try dsimp only at hSw); go_simp); (try with_reducible rfl)
      try simp only [Act.put, laS]
      refine wpAnyH_take (i := 1) (v := ?_) rfl (by kernel_rfl) (by kernel_rfl) (by kernel_rfl) (fun _ _ _ h => h) (Or.inl ⟨by kernel_rfl, ?_⟩) (by assumption) ?_
      rotate_left
      ·(intro w hSw; (try dsimp only at hSw); go_simp); (try with_reducible rfl)
      try simp only [Act.put, laS]
      refine wpAnyH_take (i := 2) (v := ?_) rfl (by kernel_rfl) (by kernel_rfl) (by kernel_rfl) (fun _ _ _ h => h) (Or.inl ⟨by kernel_rfl, ?_⟩) (by assumption) ?_
      rotate_left
      ·(intro w hSw; (try dsimp only at hSw); go_simp); (try with_reducible rfl)
      try simp only [Act.put, laS]
      refine wpAnyH_take (i := 3) (v := ?_) rfl (by kernel_rfl) (by kernel_rfl) (by kernel_rfl) (fun _ _ _ h => h) (Or.inl ⟨by kernel_rfl, ?_⟩) (by assumption) ?_
      rotate_left
      ·(intro w hSw; (try dsimp only at hSw); go_simp); (try with_reducible rfl)
      try simp only [Act.put, laS]
      refine wpAnyH_take (i := 4) (v := ?_) rfl (by kernel_rfl) (by kernel_rfl) (by kernel_rfl) (fun _ _ _ h => h) (Or.inl ⟨by kernel_rfl, ?_⟩) (by assumption) ?_
      rotate_left
      ·(intro w hSw; (try dsimp only at hSw); go_simp); (try with_reducible rfl)
      try simp only [Act.put, laS]
      refine wpAnyH_take (i := 5) (v := ?_) rfl (by kernel_rfl) (by kernel_rfl) (by kernel_rfl) (fun _ _ _ h => h) (Or.inl ⟨by kernel_rfl, ?_⟩) (by assumption) ?_
      rotate_left
      ·(intro w hSw; (try dsimp only at hSw); go_simp); (try with_reducible rfl)
      try simp only [Act.put, laS]
      refine wpAnyH_take (i := 6) (v := ?_) rfl (by kernel_rfl) (by kernel_rfl) (by kernel_rfl) (fun _ _ _ h => h) (Or.inl ⟨by kernel_rfl, ?_⟩) (by assumption) ?_
      rotate_left
      ·(intro w hSw; (try dsimp only at hSw); go_simp); (try with_reducible rfl)
      try simp only [Act.put, laS]
      refine wpAnyH_take (i := 7) (v := ?_) rfl (by kernel_rfl) (by kernel_rfl) (by kernel_rfl) (fun _ _ _ h => h) (Or.inl ⟨by kernel_rfl, ?_⟩) (by assumption) ?_
      rotate_left
      ·(intro w hSw; (try dsimp only at hSw); go_simp); (try with_reducible rfl)
      try simp only [Act.put, laS]
      refine wpAnyH_take (i := 8) (v := ?_) rfl (by kernel_rfl) (by kernel_rfl) (by kernel_rfl) (fun _ _ _ h => h) (Or.inl ⟨by kernel_rfl, ?_⟩) (by assumption) ?_
      rotate_left
      ·(intro w hSw; (try dsimp only at hSw); go_simp); (try with_reducible rfl)
      try simp only [Act.put, laS]
      refine wpAnyH_ready (rs := [9]) (by kernel_rfl) (by simp) ?_
      refine AllReadyH.cons rfl (fun K hK => ?_) AllReadyH.nil
      go_simp
      refine (HWS.out _ (HA.out.below (Below.refl _ _).drew)).mono ?_
      rintro e W2 ⟨rfl, hW2⟩
      have HW2 := Lib.hid hW2
      refine hK.out _ _ trivial (fun hHeld => ?_)
      clear hK K HWS hW2 HA
      try simp only [Act.put, laS]
      refine wpAnyH_done (by kernel_rfl) ?_ _
      go_wp2
      go_roundw
      case rel => exact ⟨_, _, _, rfl, HW2.out⟩
      case measure => exact HLM.out
    ·have zl : ((k : Int) + 1 < (u.length : Int)) = True := by simp; omega
     obtain ⟨a, ha⟩ : ∃ a, u[k]? = some a := ⟨_, List.getElem?_eq_getElem (by omega)⟩
     obtain ⟨c, hc⟩ : ∃ a, u[k + 1]? = some a := ⟨_, List.getElem?_eq_getElem (by omega)⟩
     have x0 := fun W => HIX.out k a ha W
     have x1 : ∀ W, (Instr.index 9 (.string ⟨u.toArray⟩) (.int .i64 ((k : Int) + 1))).run Tryz.prog W = .ok (.int .u8 (c.toNat : Int)) W := fun W => HIX.out (k + 1) c hc W
     have hb := u8_next a c
     by_cases hn : c = a + 1
     ·have hkr : k + 2 ≤ r := by
       rcases Nat.lt_or_ge (k + 1) r with h | h
       ·omega
       ·exact absurd hn (HSP.out k a c (by omega) ha hc)
      rw [decide_eq_true hn] at hb
      clear HMO HSP HIX HST HPUT HT4 HTD HTW hn
      go_wp2_with fail
      go_quiet (fail)
      have HA := Lib.hid (HA.out.below (Go.below_drewN (Below.refl _ _) nq))
      go_wp2
      go_roundw
      case rel => exact ⟨k + 1, by omega, rfl, HA.out⟩
      case measure => (simp [RowKit.intOf] <;> omega)
     ·have hkr : k + 1 = r := by
       rcases Nat.lt_or_ge (k + 1) r with h | h
       ·obtain ⟨a', h1, h2⟩ := HMO.out k h
        rw [ha] at h1; rw [hc] at h2
        cases h1
        exact absurd (Option.some.inj h2) hn
       ·omega
      rw [decide_eq_false hn] at hb
      clear HMO HSP HIX hn
      go_wp2_with fail
      go_quiet (fail)
      have HA := Lib.hid (HA.out.below (Go.below_drewN (Below.refl _ _) nq))
      obtain ⟨D, hD⟩ : ∃ D, D = u.drop (k + 1) := ⟨_, rfl⟩
      have hDl : D.length + (k + 1) = u.length := by rw [hD, List.length_drop]; omega
      have hsd : ∀ W, (Instr.slice 9 (.string ⟨u.toArray⟩) (some (.int .i64 ((k : Int) + 1))) none none).run Tryz.prog W = .ok (.string ⟨D.toArray⟩) W := fun W => by rw [hD]; exact HTD.out (k + 1) (by omega) W
      have hst := HST.out k hkr
      rw [← hD] at hst
      have hlm : lenOf (.string ⟨D.toArray⟩) < lenOf (.string ⟨u.toArray⟩) := by simp [lenOf, ByteArray.size]; omega
      have HLM := Lib.hid hlm
      clear hlm hD
      by_cases h3 : k + 1 < 3
      ·have z3 : ((k : Int) + 1 < 3) = True := by simp; omega
       obtain ⟨X, hX⟩ : ∃ X : ByteArray, X = ⟨(u.take (k + 1)).toArray⟩ := ⟨_, rfl⟩
       have hXd : X.data.toList = u.take (k + 1) := by rw [hX]
       have hs4 : ∀ W, (Instr.slice 9 (.string ⟨u.toArray⟩) none (some (.int .i64 ((k : Int) + 1))) none).run Tryz.prog W = .ok (.string X) W := fun W => by rw [hX]; exact HT4.out (k + 1) (by omega) W
       rw [if_pos h3] at hst
       have HWS := Lib.hid (HPUT.out _ HA.out X D (by rw [hXd]; exact hst) (by rw [hXd, List.length_take]; omega) (by omega))
       clear HT4 HTD HTW HST HPUT HA hst hX hXd
       go_wp2_with fail
       refine HWS.out.mono ?_
       rintro e W2 ⟨rfl, hW2⟩
       have HW2 := Lib.hid hW2
       clear HWS hW2
       go_wp2
       go_roundw
       case rel => exact ⟨_, _, _, rfl, HW2.out⟩
       case measure => exact HLM.out
      ·have z3 : ((k : Int) + 1 < 3) = False := by simp; omega
       rw [if_neg h3] at hst
       obtain ⟨P, hP⟩ : ∃ P : ByteArray, P = ⟨(u.take 1).toArray⟩ := ⟨_, rfl⟩
       obtain ⟨Q, hQ⟩ : ∃ P : ByteArray, P = ⟨((u.drop k).take 1).toArray⟩ := ⟨_, rfl⟩
       have hs1 : ∀ W, (Instr.slice 9 (.string ⟨u.toArray⟩) none (some (.int .i64 1)) none).run Tryz.prog W = .ok (.string P) W := fun W => by rw [hP]; exact HT4.out 1 (by omega) W
       have hs2 : ∀ W, (Instr.slice 9 (.string ⟨u.toArray⟩) (some (.int .i64 (k : Int))) (some (.int .i64 ((k : Int) + 1))) none).run Tryz.prog W = .ok (.string Q) W := fun W => by rw [hQ]; exact HTW.out k 1 (by omega) W
       have hPl : P.size ≤ 1 := by rw [hP]; simp [ByteArray.size]; omega
       have hQl : Q.size ≤ 1 := by rw [hQ]; simp [ByteArray.size]; omega
       have hPd : P.data.toList = u.take 1 := by rw [hP]
       have hQd : Q.data.toList = (u.drop k).take 1 := by rw [hQ]
       have hX : (P ++ ⟨#[45]⟩ ++ Q : ByteArray).data.toList = u.take 1 ++ [45] ++ (u.drop k).take 1 := by rw [← hPd, ← hQd]; simp
       have HWS := Lib.hid fun W hW => HPUT.out W hW (P ++ ⟨#[45]⟩ ++ Q) D (by rw [hX]; exact hst) (by rw [hX]; simp; omega) (by omega)
       have ew2 : IntKind.i64.wrap (k : Int) = (k : Int) := by simp [IntKind.wrap, IntKind.signed, IntKind.bits]; omega
       have y1 : (9223372036854775807 < P.size + 1) = False := by simp; omega
       have y2 : (9223372036854775807 < P.size + 1 + Q.size) = False := by simp; omega
       clear HT4 HTD HTW HST HPUT hst hP hQ hPd hQd hX
       go_wp2_with fail
       refine wp_region_held_drew (S := fun w' => True) (by kernel_rfl) trivial (fun hHeld => ?_)
       refine wpAnyH_take (i := 0) (v := ?_) rfl (by kernel_rfl) (by kernel_rfl) (by kernel_rfl) (fun _ _ _ h => h) (Or.inl ⟨by kernel_rfl, ?_⟩) (by assumption) ?_
       rotate_left
       ·(intro w hSw; (try dsimp only at hSw); go_simp); (try with_reducible rfl)
       try simp only [Act.put, laS]
       refine wpAnyH_take (i := 1) (v := ?_) rfl (by kernel_rfl) (by kernel_rfl) (by kernel_rfl) (fun _ _ _ h => h) (Or.inl ⟨by kernel_rfl, ?_⟩) (by assumption) ?_
       rotate_left
       ·(intro w hSw; (try dsimp only at hSw); go_simp); (try with_reducible rfl)
       try simp only [Act.put, laS]
       refine wpAnyH_take (i := 2) (v := ?_) rfl (by kernel_rfl) (by kernel_rfl) (by kernel_rfl) (fun _ _ _ h => h) (Or.inl ⟨by kernel_rfl, ?_⟩) (by assumption) ?_
       rotate_left
       ·(intro w hSw; (try dsimp only at hSw); go_simp); (try with_reducible rfl)
       try simp only [Act.put, laS]
       refine wpAnyH_take (i := 3) (v := ?_) rfl (by kernel_rfl) (by kernel_rfl) (by kernel_rfl) (fun _ _ _ h => h) (Or.inl ⟨by kernel_rfl, ?_⟩) (by assumption) ?_
       rotate_left
       ·(intro w hSw; (try dsimp only at hSw); go_simp); (try with_reducible rfl)
       try simp only [Act.put, laS]
       refine wpAnyH_take (i := 4) (v := ?_) rfl (by kernel_rfl) (by kernel_rfl) (by kernel_rfl) (fun _ _ _ h => h) (Or.inl ⟨by kernel_rfl, ?_⟩) (by assumption) ?_
       rotate_left
       ·(intro w hSw; (try dsimp only at hSw); go_simp); (try with_reducible rfl)
       try simp only [Act.put, laS]
       refine wpAnyH_take (i := 5) (v := ?_) rfl (by kernel_rfl) (by kernel_rfl) (by kernel_rfl) (fun _ _ _ h => h) (Or.inl ⟨by kernel_rfl, ?_⟩) (by assumption) ?_
       rotate_left
       ·(intro w hSw; (try dsimp only at hSw); go_simp); (try with_reducible rfl)
       try simp only [Act.put, laS]
       refine wpAnyH_take (i := 6) (v := ?_) rfl (by kernel_rfl) (by kernel_rfl) (by kernel_rfl) (fun _ _ _ h => h) (Or.inl ⟨by kernel_rfl, ?_⟩) (by assumption) ?_
       rotate_left
       ·(intro w hSw; (try dsimp only at hSw); go_simp); (try with_reducible rfl)
       try simp only [Act.put, laS]
       refine wpAnyH_take (i := 7) (v := ?_) rfl (by kernel_rfl) (by kernel_rfl) (by kernel_rfl) (fun _ _ _ h => h) (Or.inl ⟨by kernel_rfl, ?_⟩) (by assumption) ?_
       rotate_left
       ·(intro w hSw; (try dsimp only at hSw); go_simp); (try with_reducible rfl)
       try simp only [Act.put, laS]
       refine wpAnyH_take (i := 8) (v := ?_) rfl (by kernel_rfl) (by kernel_rfl) (by kernel_rfl) (fun _ _ _ h => h) (Or.inl ⟨by kernel_rfl, ?_⟩) (by assumption) ?_
       rotate_left
       ·(intro w hSw; (try dsimp only at hSw); go_simp); (try with_reducible rfl)
       try simp only [Act.put, laS]
       refine wpAnyH_ready (rs := [9]) (by kernel_rfl) (by simp) ?_
       refine AllReadyH.cons rfl (fun K hK => ?_) AllReadyH.nil
       go_simp
       refine (HWS.out _ (HA.out.below (Below.refl _ _).drew)).mono ?_
       rintro e W2 ⟨rfl, hW2⟩
       have HW2 := Lib.hid hW2
       refine hK.out _ _ trivial (fun hHeld => ?_)
       clear hK K HWS hW2 HA
       try simp only [Act.put, laS]
       refine wpAnyH_done (by kernel_rfl) ?_ _
       go_wp2
       go_roundw
       case rel => exact ⟨_, _, _, rfl, HW2.out⟩
       case measure => exact HLM.out
end
end Go.Proofs.YtdjcgjkbecncaaaGreatDoor
