/- The iterator of lines; Split. -/
import Derived.Test.YtkdnnhjoeaoihaaTbJ
import Derived.Test.YtkdnnhjoeaoihaaTbH
namespace Go.Proofs.Ytkdnnhjoeaoihaa
open Go.RowKit Go.Shelf
set_option linter.unusedVariables false
set_option linter.unusedSimpArgs false

attribute [local go_sem] Oper.semAt_some

theorem cut_size (u : List UInt8) : (cut1 u).length ≤ u.length := (List.takeWhile_sublist _).length_le
theorem rest_lt (u : List UInt8) (h : u ≠ []) : (rest1 u).length < u.length := by
  cases hf : fnd u
  · rw [(cut_none u hf).2]
    exact List.length_pos_iff.2 h
  · have := congrArg List.length (cut_some u hf)
    simp only [List.length_append, List.length_cons] at this
    omega
/-- The lines of a text. -/
def spl (u : List UInt8) : List Ln := if h : u = [] then [] else (⟨(cut1 u).toArray⟩, fnd u) :: spl (rest1 u)
termination_by u.length
decreasing_by exact rest_lt u h
theorem spl_nil : spl [] = [] := by rw [spl]; rfl
theorem spl_cons (u : List UInt8) (h : u ≠ []) : spl u = (⟨(cut1 u).toArray⟩, fnd u) :: spl (rest1 u) := by rw [spl, dif_neg h]
theorem spl_len : ∀ (n : Nat) (u : List UInt8), u.length ≤ n → (spl u).length ≤ u.length
  | n, u, h => by
    by_cases hu : u = []
    · subst hu; rw [spl_nil]; simp
    · rw [spl_cons u hu]
      have hr := rest_lt u hu
      match n, h with
      | 0, h => omega
      | n + 1, h =>
        have ih := spl_len n (rest1 u) (by omega)
        simp only [List.length_cons]
        omega
theorem tl_mk (u : List UInt8) : (⟨u.toArray⟩ : ByteArray).toList = u := by rw [Lib.toList_data]
theorem grown_drewN (W : World) : ∀ k, W.grownBy (W.drewN k) none
  | 0 => World.grownBy.refl W none
  | k + 1 => ⟨(grown_drewN W k).os, (grown_drewN W k).tape, (grown_drewN W k).output, (grown_drewN W k).size, (grown_drewN W k).block⟩
def lenS : Value → Nat
  | .string t => t.size
  | _ => 0

set_option maxRecDepth 100000 in
set_option maxHeartbeats 4000000 in
/-- **The iterator's closure: the text's lines, in order, for every loop body.** -/
theorem lines1_in (n : Nat) (hn : 1 ≤ n) (l Bn n₀ B0 : Nat) (s : List UInt8) (hs : s.length ≤ 1000000) (J Jx : List Ln → World → Prop) (hJa : AbidesFrom B0 J)
    (hY : ∀ pre x W, J pre W → pre.length < s.length → YieldAt Fence.wide (n - 1) Try.prog l #[.agg #[.string x.1, .bool x.2]] W fun e W' =>
      (e = .returned (.bool true) ∧ J (pre ++ [x]) W' ∧ Below n₀ W W') ∨ (e = .returned (.bool false) ∧ Jx (pre ++ [x]) W'))
    (W : World) (hc : W.cell? ⟨Bn, 0, none⟩ = some (.string ⟨s.toArray⟩)) (h0 : J [] W) :
    CallsIn Fence.wide n Try.prog 37 #[.func (.yield l) #[] #[], .pointer (some ⟨Bn, 0, none⟩)] W fun e W' => (∃ v, e = .returned v) ∧
      ((∃ ys, ys = spl s ∧ J ys W') ∨ (∃ pre, True ∧ Jx pre W')) := by
  obtain ⟨t0, ht0⟩ : ∃ t : ByteArray, t = ⟨s.toArray⟩ := ⟨_, rfl⟩
  rw [← ht0] at hc
  have HT0 := Lib.hid ht0
  clear ht0
  refine callsIn_of_wp Try.func37 rfl trivial ?_ rfl
  simp only [Try.ntmps37, List.size_toArray, List.length_cons, List.length_nil, Nat.reduceAdd, Nat.reduceSub, Array.replicate_succ, Array.replicate_zero, List.push_toArray, List.append_toArray, List.nil_append, List.cons_append]
  gi_wp2
  gi_loopw [3] (fun v wr => ∃ (u : List UInt8) (t : ByteArray) (pre : List Ln), v = .string t ∧ t = ⟨u.toArray⟩ ∧ pre ++ spl u = spl s ∧ pre.length + u.length ≤ s.length ∧ J pre wr) (fun v _ => lenS v)
  case atStart => exact ⟨s, t0, [], rfl, HT0.out, rfl, by simp, h0⟩
  case round =>
    obtain ⟨u, t, pre, rfl, ht, hsp, hpl, hJ⟩ := hrel
    have htl : t.toList = u := by rw [ht]; exact tl_mk u
    have hts : t.size = u.length := by rw [ht]; simp [ByteArray.size]
    by_cases hu : u = []
    · have e1 : t.toList = [] := by rw [htl, hu]
      have e2 : t.toList.isEmpty = true := by rw [e1]; rfl
      have e3 : (!t.toList.isEmpty) = false := by rw [e2]; rfl
      have HS : Hid (pre = spl s) := Lib.hid (by rw [← hsp, hu, spl_nil]; simp)
      clear hsp ht htl hts
      gi_wp2
      go_end0
      exact ⟨⟨_, rfl⟩, .inl ⟨_, HS.out, hJ⟩⟩
    · have e2 : t.toList.isEmpty = false := by rw [htl]; cases u <;> simp_all
      have e3 : (!t.toList.isEmpty) = true := by rw [e2]; rfl
      have e1 : ¬ t.toList = [] := by rw [htl]; exact hu
      have hul : 0 < u.length := List.length_pos_iff.2 hu
      have HC := Lib.hid (fun w => cut_c u (by omega) w)
      rw [← ht] at HC
      have hr := rest_lt u hu
      obtain ⟨a, ha⟩ : ∃ s : ByteArray, s = ⟨(cut1 u).toArray⟩ := ⟨_, rfl⟩
      obtain ⟨b, hb⟩ : ∃ s : ByteArray, s = ⟨(rest1 u).toArray⟩ := ⟨_, rfl⟩
      obtain ⟨f, hf⟩ : ∃ f, f = fnd u := ⟨_, rfl⟩
      have hbs : b.size = (rest1 u).length := by rw [hb]; simp [ByteArray.size]
      have hsc := spl_cons u hu
      rw [← ha, ← hf] at hsc
      rw [← ha, ← hb, ← hf] at HC
      have hJd : ∀ k, J pre (wr.drewN k) := fun k => hJa pre wr _ none hJ (grown_drewN wr k) (fun r e => by cases e)
      have HY := Lib.hid (fun k => hY pre (a, f) (wr.drewN k) (hJd k) (by omega))
      have HS := Lib.hid hsp
      have HSC := Lib.hid hsc
      have HB := Lib.hid hb
      have HBS : Hid (b.size < t.size ∧ b.size = (rest1 u).length ∧ pre.length + u.length ≤ s.length ∧ (rest1 u).length < u.length) := Lib.hid ⟨by omega, hbs, hpl, hr⟩
      clear ha hb hf hsp hsc ht htl hts hbs hr hJ hJd hpl
      gi_wp2_with fail
      refine ⟨trivial, ?_⟩
      refine (callsIn_wide.2 (HC.out _)).mono ?_
      rintro e w' ⟨rfl, k, rfl⟩
      obtain ⟨fn, tmps, assign, body, hy, hR⟩ := HY.out k
      try dsimp only at hy
      gi_wp2_with fail
      refine hR.mono ?_
      rintro e W3 (⟨rfl, hJ3, hk3⟩ | ⟨rfl, hJx3⟩)
      · gi_wp2
        go_roundw
        case rel =>
          refine ⟨rest1 u, b, pre ++ [(a, f)], rfl, HB.out, ?_, ?_, hJ3⟩
          · rw [← HS.out, HSC.out]; simp
          · have := HBS.out; simp only [List.length_append, List.length_cons, List.length_nil]; omega
        case measure => have := HBS.out; simp [lenS]; omega
      · gi_wp2
        refine bodyPost_ret (results_none rfl _ _ _) rfl ?_
        exact ⟨⟨_, rfl⟩, .inr ⟨_, trivial, hJx3⟩⟩

/-- **lines(s) hands back a value that ranges over the text's lines.** -/
theorem lines_stops (n : Nat) (hn : 1 ≤ n) (Bn n₀ : Nat) (s : List UInt8) (hs : s.length ≤ 1000000) (w : World) (hc : w.cell? ⟨Bn, 0, none⟩ = some (.string ⟨s.toArray⟩)) (hlt : Bn < w.heap.size) :
    SeqStopsK Fence.wide n Try.prog 37 #[.pointer (some ⟨Bn, 0, none⟩)] (fun x : Ln => #[Value.agg #[.string x.1, .bool x.2]]) (Below n₀) (fun ys => ys = spl s) (fun _ => True) s.length w := fun l J Jx W hW hJ hJx hY h00 =>
  lines1_in n hn l Bn n₀ W.heap.size s hs J Jx hJ hY W ((hW.cell (p := ⟨Bn, 0, none⟩) hlt).trans hc) h00

theorem linesmk_c (t : ByteArray) (w : World) : Calls Try.prog 32 #[.string t] w fun e w' => e = .returned (.func (.func 37) #[] #[.pointer (some ⟨w.heap.size, 0, none⟩)]) ∧ w' = w.alloc (.cells #[.string t] 9) := by
  go_enter Try.func32, Try.ntmps32
  go_wp2
  go_ret
  exact ⟨rfl, rfl⟩

end Go.Proofs.Ytkdnnhjoeaoihaa
