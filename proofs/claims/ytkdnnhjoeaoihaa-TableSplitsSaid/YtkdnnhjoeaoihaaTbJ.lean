/- strings.Cut at a byte 10; the iterator of lines; Split. -/
import Derived.Test.YtkdnnhjoeaoihaaTbL
import Derived.Test.YtkdnnhjoeaoihaaShelf
import Derived.Lib.IndexBytes
import Derived.Lib.CutLaws
import Derived.RangeFuncNested
import Derived.RangeFuncBound
import Derived.RangeFuncCalls
import Derived.RangeFuncLeaves
import Derived.RangeFuncBox
import Derived.Shelf.RegionOpen
import Derived.OwnWalkIn
import Derived.TacticsInMore
import Derived.LoopNIn
import Derived.LoopIn
import Derived.Maps.AppendAt
namespace Go.Proofs.Ytkdnnhjoeaoihaa
open Go.RowKit Go.Shelf
set_option linter.unusedVariables false
set_option linter.unusedSimpArgs false

attribute [local go_sem] Oper.semAt_some

def cut1 (u : List UInt8) : List UInt8 := u.takeWhile (· != 10)
def rest1 (u : List UInt8) : List UInt8 := (u.dropWhile (· != 10)).drop 1
def fnd (u : List UInt8) : Bool := u.any (· == 10)
theorem idx10 : ∀ u : List UInt8, Lib.indexByte u 10 = if fnd u then ((cut1 u).length : Int) else -1
  | [] => rfl
  | b :: l => by
    have ih := idx10 l
    by_cases h : b = 10
    · subst h; simp [Lib.indexByte, fnd, cut1]
    · have h1 : (b == 10) = false := by simpa using h
      have h2 : (b != 10) = true := by simp [bne, h1]
      simp only [Lib.indexByte, h1, fnd, List.any_cons, Bool.false_or, cut1, List.takeWhile_cons, h2, if_true, Bool.false_eq_true, if_false]
      unfold fnd cut1 at ih
      rw [ih]
      cases hl : l.any (· == 10) <;> simp <;> (try omega)
theorem cut_none : ∀ u : List UInt8, fnd u = false → cut1 u = u ∧ rest1 u = []
  | [], _ => ⟨rfl, rfl⟩
  | b :: l, h => by
    simp only [fnd, List.any_cons, Bool.or_eq_false_iff] at h
    have h2 : (b != 10) = true := by simp [bne, h.1]
    have ih := cut_none l h.2
    unfold cut1 rest1 at *
    simp only [List.takeWhile_cons, List.dropWhile_cons, h2, if_true]
    exact ⟨by rw [ih.1], ih.2⟩
theorem cut_some : ∀ u : List UInt8, fnd u = true → u = cut1 u ++ 10 :: rest1 u
  | [], h => by simp [fnd] at h
  | b :: l, h => by
    by_cases hb : b = 10
    · subst hb; simp [cut1, rest1]
    · have h1 : (b == 10) = false := by simpa using hb
      have h2 : (b != 10) = true := by simp [bne, h1]
      have h3 : fnd l = true := by simpa [fnd, h1] using h
      have ih := cut_some l h3
      unfold cut1 rest1 at *
      simp only [List.takeWhile_cons, List.dropWhile_cons, h2, if_true, List.cons_append]
      rw [← ih]
theorem cut_app (u a b : List UInt8) (h : u = a ++ 10 :: b) : u.take a.length = a ∧ u.drop (a.length + 1) = b := by
  subst h
  refine ⟨by simp, ?_⟩
  rw [show a ++ 10 :: b = (a ++ [10]) ++ b by simp, show a.length + 1 = (a ++ [10]).length by simp, List.drop_left]
theorem cut_lib (u : List UInt8) : Lib.cut u [10] = (cut1 u, rest1 u, fnd u) := by
  unfold Lib.cut
  rw [Lib.index_one, idx10]
  cases h : fnd u
  · obtain ⟨h1, h2⟩ := cut_none u h
    simp [h1, h2]
  · have h1 := cut_some u h
    simp only [if_true]
    rw [if_pos (by omega)]
    have e : ((cut1 u).length : Int).toNat = (cut1 u).length := by omega
    rw [e]
    obtain ⟨g1, g2⟩ := cut_app u _ _ h1
    exact Prod.ext g1 (Prod.ext g2 rfl)

set_option maxRecDepth 100000 in
set_option maxHeartbeats 4000000 in
theorem cuti_c (u : List UInt8) (hu : u.length ≤ 1000000) (w : World) :
    Calls Try.prog 40 #[.string ⟨u.toArray⟩, .string ⟨#[10]⟩] w fun e w' => e = .returned (.tuple #[.string ⟨(cut1 u).toArray⟩, .string ⟨(rest1 u).toArray⟩, .bool (fnd u)]) ∧ ∃ n, w' = w.drewN n := by
  obtain ⟨s, hs⟩ : ∃ s : ByteArray, s = ⟨u.toArray⟩ := ⟨_, rfl⟩
  have hd : s.data.toList = u := by rw [hs]
  have hsz : s.size = u.length := by rw [hs]; simp [ByteArray.size]
  have hc := cut_lib u
  have hi := idx10 u
  have hix := Lib.index_one u 10
  rw [← hs]
  cases h : fnd u
  · rw [h] at hi
    obtain ⟨e1, e2, e3⟩ := Lib.cutB_miss s ⟨#[10]⟩ (by show Lib.index s.data.toList [10] = -1; rw [hd, hix, hi]; rfl)
    have hc2 : Lib.cut s.data.toList (⟨#[10]⟩ : ByteArray).data.toList = (cut1 u, rest1 u, fnd u) := by rw [hd]; exact hc
    rw [hc2] at e1 e2 e3
    simp only at e1 e2
    rw [e1, e2]
    have hi2 : Lib.indexByte s.data.toList 10 = -1 := by rw [hd, hi]; rfl
    have HI := Lib.hid (Try.stringslite_Index_one s 10 w)
    rw [hi2] at HI
    clear e1 e2 e3 hc hc2 hi hi2 hix hd hs h
    go_enter Try.func40, Try.ntmps40
    go_wp2_with fail
    refine HI.out.mono ?_
    rintro e w' ⟨rfl, rfl⟩
    go_wp2
    go_ret3
    exact ⟨rfl, 0, rfl⟩
  · rw [h] at hi
    have hle : (cut1 u).length + 1 ≤ u.length := by
      have := congrArg List.length (cut_some u h)
      simp only [List.length_append, List.length_cons] at this
      omega
    obtain ⟨i, hil⟩ : ∃ i : Nat, i = (cut1 u).length := ⟨_, rfl⟩
    obtain ⟨e1, e2, e3⟩ := Lib.cutB_hit s ⟨#[10]⟩ i (by show Lib.index s.data.toList [10] = _; rw [hd, hix, hi, hil]; rfl)
    have hc2 : Lib.cut s.data.toList (⟨#[10]⟩ : ByteArray).data.toList = (cut1 u, rest1 u, fnd u) := by rw [hd]; exact hc
    rw [hc2] at e1 e2 e3
    simp only at e1 e2
    rw [show (⟨#[10]⟩ : ByteArray).size = 1 from rfl] at e2
    rw [e1, e2]
    have hi2 : Lib.indexByte s.data.toList 10 = (i : Int) := by rw [hd, hi, hil]; rfl
    have HI := Lib.hid (Try.stringslite_Index_one s 10 w)
    rw [hi2] at HI
    have c1 : (0 : Int) ≤ ↑i := by omega
    have c2 : (↑i : Int) ≤ ↑s.size := by omega
    have c3 : (0 : Int) ≤ ↑i + 1 := by omega
    have c4 : (↑i + 1 : Int) ≤ ↑s.size := by omega
    have hsm : s.size ≤ 1000000 := by omega
    clear e1 e2 e3 hc hc2 hi hi2 hix hd hs h hle hil hsz
    go_enter Try.func40, Try.ntmps40
    go_wp2_with fail
    refine HI.out.mono ?_
    rintro e w' ⟨rfl, rfl⟩
    go_wp2_with fail
    have hmx : Try.prog.follows .mixedOrders = true := by kernel_rfl
    go_region_o
    go_wp2
    go_ret3
    exact ⟨rfl, 1, rfl⟩

set_option maxRecDepth 100000 in
set_option maxHeartbeats 4000000 in
theorem cut_c (u : List UInt8) (hu : u.length ≤ 1000000) (w : World) :
    Calls Try.prog 38 #[.string ⟨u.toArray⟩, .string ⟨#[10]⟩] w fun e w' => e = .returned (.tuple #[.string ⟨(cut1 u).toArray⟩, .string ⟨(rest1 u).toArray⟩, .bool (fnd u)]) ∧ ∃ n, w' = w.drewN n := by
  have HC := Lib.hid (cuti_c u hu w)
  obtain ⟨s, hs⟩ : ∃ s : ByteArray, s = ⟨u.toArray⟩ := ⟨_, rfl⟩
  obtain ⟨a, ha⟩ : ∃ s : ByteArray, s = ⟨(cut1 u).toArray⟩ := ⟨_, rfl⟩
  obtain ⟨b, hb⟩ : ∃ s : ByteArray, s = ⟨(rest1 u).toArray⟩ := ⟨_, rfl⟩
  obtain ⟨f, hf⟩ : ∃ f, f = fnd u := ⟨_, rfl⟩
  rw [← hs, ← ha, ← hb, ← hf] at HC ⊢
  clear hs ha hb hf
  go_enter Try.func38, Try.ntmps38
  go_wp2_with fail
  refine HC.out.mono ?_
  rintro e w' ⟨rfl, n, rfl⟩
  go_wp2
  go_ret3
  exact ⟨rfl, n, rfl⟩

end Go.Proofs.Ytkdnnhjoeaoihaa
