/- Of no program: when the reference's read gives a pattern whose text is the text. -/
import Derived.Test.YthcgboebmhabeaaDoorZRxRu
import Derived.Test.YthcgboebmhabeaaDoorZRxTs
import Derived.Test.YthcgboebmhabeaaDoorZRxRz
import Derived.Test.YthcgboebmhabeaaDoorZRxRl
import Derived.Test.YthcgboebmhabeaaDoorZRxBk
namespace Go.Proofs.YthcgboebmhabeaaDoor
open Go.RowKit Go.Lib
set_option linter.unusedVariables false
set_option linter.unusedSimpArgs false

theorem rr_pat (s : List UInt8) (hs : s.length ≤ 100000) (t : T) (hp : IsPat (rdx s) t) (ht : text t = s) : ∃ g i, rr s 131 0 [] 0 = some (rdx s, g, i) := by
  have hn := hp.nodes
  obtain ⟨ok, ha, hsz, h120, _, _, hnum⟩ := hp
  obtain ⟨u, hu⟩ := Option.isSome_iff_exists.1 hnum
  have := rr_text s t 131 0 [] (fun _ => false) 0 u [] ok (IsPat.tfits (rdx_fits s (by omega)) t 0 ha) hu (by simp [ht]) (by omega)
  refine ⟨u.1, 0 + (text t).length, ?_⟩
  rw [this]
  simp [← hn]
theorem rr_fit (s : List UInt8) (hs : s.length ≤ 100000) {ys : List Nd} {g i : Nat} (h : rr s 131 0 [] 0 = some (ys, g, i)) : ∀ (j : Nat) (x : Nd), ys[j]? = some x → x.Fits := fun j x hx => by
  exact rr_fits s hs 131 0 [] 0 _ h (by simp) (by simp) (by simp) x (List.mem_of_getElem? hx)
theorem rr_no (s : List UInt8) (hs : s.length ≤ 100000) (hp : ¬ ∃ t, IsPat (rdx s) t ∧ text t = s) {ys : List Nd} {g i : Nat} (h : rr s 131 0 [] 0 = some (ys, g, i)) (t : T) (h1 : IsPat ys t) : text t ≠ s := fun h2 => by
  have := rdx_text h1 (rr_fit s hs h)
  rw [h2] at this
  exact hp ⟨t, by rw [this]; exact h1, h2⟩
theorem rr_some (s : List UInt8) {ys : List Nd} {g i : Nat} (h : rr s 131 0 [] 0 = some (ys, g, i)) : s ≠ [] ∧ 1 ≤ ys.length ∧ ys.length ≤ s.length := by
  have := rr_goes s 131 0 [] 0 _ h
  have h1 := this.i; have h2 := this.l; have h3 := this.n; have h4 := this.n1
  simp only [List.length_nil] at h1 h2 h3 h4
  exact ⟨fun e => by subst e; simp only [List.length_nil] at h2; omega, by omega, by omega⟩

end Go.Proofs.YthcgboebmhabeaaDoor

namespace Go.Proofs.YthcgboebmhabeaaDoor
open Go.RowKit Go.Lib
set_option linter.unusedVariables false
set_option linter.unusedSimpArgs false

theorem below_grown {w w' : World} (h : w.grownBy w' none) : Below w.heap.size w w' :=
  ⟨h.os, h.tape, h.output, h.size, fun k hk => h.block k hk (by simp)⟩
theorem nil_row (w : World) : RRow w 0 (.slice none 0 0) 0 [] := ⟨rfl, .inl ⟨rfl, rfl⟩⟩
/-- read, called as Parse calls it. -/
theorem read0_c (s : List UInt8) (hs : s.length ≤ 600) (w : World) :
    Calls Tryd.prog 14 #[.string ⟨s.toArray⟩, .int .i64 0, .slice none 0 0, .int .i64 0, .int .i64 0] w fun e w' => Below w.heap.size w w' ∧
      ((∃ (ys : List Nd) (g i : Nat) (p : Option Addr) (cap : Nat), rr s 131 0 [] 0 = some (ys, g, i) ∧ e = .returned (.tuple #[.slice p ys.length cap, .int .i64 (g : Int), .int .i64 (i : Int)]) ∧ Nodes w' p ys.length ys) ∨
        (rr s 131 0 [] 0 = none ∧ ∃ (v : Value) (g : Int), e = .returned (.tuple #[v, .int .i64 g, .int .i64 (-1)]))) := by
  have := rdc_all s (by omega) 131 (Nat.le_refl _) 0 0 0 [] (.slice none 0 0) w rfl (Nat.le_refl _) (Nat.le_refl _) (Nat.zero_le _) (nil_row w)
  refine this.mono ?_
  rintro e w' ⟨hg, h⟩
  refine ⟨below_grown hg, ?_⟩
  rcases h with ⟨ys, g, i, v', hr, rfl, hrow, _⟩ | ⟨hr, v', gz, rfl⟩
  · have := rr_some s hr
    obtain ⟨p, cap, rfl, hN⟩ := rows_nodes hrow rfl (by omega) (rr_fit s (by omega) hr)
    exact .inl ⟨ys, g, i, p, cap, hr, rfl, hN⟩
  · exact .inr ⟨hr, v', gz, rfl⟩

set_option maxRecDepth 100000 in
set_option maxHeartbeats 4000000 in
theorem rparse_yes (s : List UInt8) (hs : s.length ≤ 600) (t : T) (hp : IsPat (rdx s) t) (ht : text t = s) (w : World) :
    Calls Tryd.prog 6 #[.string ⟨s.toArray⟩] w fun e w' => (∃ p cap, e = .returned (.tuple #[.slice p (rdx s).length cap, .int .i64 0]) ∧ Nodes w' p (rdx s).length (rdx s)) ∧ Below w.heap.size w w' := by
  obtain ⟨g0, i0, hrr⟩ := rr_pat s (by omega) t hp ht
  have HR := Lib.hid (read0_c s hs w)
  have h1 : 1 ≤ (rdx s).length := by have := hp.2.2.1; have := t.size_pos; omega
  have hts : ∀ (p : Option Addr) (cap : Nat) (w' : World), Nodes w' p (rdx s).length (rdx s) → Calls Tryd.prog 15 #[.slice p (rdx s).length cap] w' fun e w'' => e = .returned (.string ⟨s.toArray⟩) ∧ Below w'.heap.size w' w'' := fun p cap w' hN => by
    obtain ⟨b, o, rfl⟩ := hN.ptr h1
    have := rtext_in b o (rdx s).length cap (rdx s) rfl t hp (rdx_fits s (by omega)) w' (hN.at' h1 b o rfl)
    rwa [ht] at this
  have HT := Lib.hid hts
  have hne := (rr_some s hrr).1
  have hq : (s == []) = false := by simpa using hne
  clear hts hp ht
  generalize hxs : rdx s = xs at *
  clear hxs h1
  have HRR := Lib.hid hrr
  clear hrr
  go_enter Tryd.func6, Tryd.ntmps6
  go_wp2_with fail
  refine HR.out.mono ?_
  clear HR
  rintro e w1 ⟨hB1, ⟨ys, g, i, p, cap, hr, rfl, hN⟩ | ⟨hr, _⟩⟩
  · have := HRR.out.symm.trans hr
    obtain ⟨rfl, rfl, rfl⟩ : xs = ys ∧ g0 = g ∧ i0 = i := by simpa using this
    clear this hr HRR
    have gi : ((i0 : Int) < 0) = False := by simp
    go_wp2_with fail
    refine (HT.out p cap w1 hN).mono ?_
    rintro e w2 ⟨rfl, hB2⟩
    have hN2 := hN.below hB2
    have hB12 := hB1.trans (hB2.mono hB1.size)
    clear hB1 hB2 hN HT
    go_wp2
    refine bodyPost_ret (v := .tuple #[.slice p xs.length cap, .int .i64 0]) (by simp [results, Tryd.results6, go_sem]) rfl ?_
    exact ⟨⟨p, cap, rfl, hN2⟩, hB12⟩
  · exact absurd (HRR.out.symm.trans hr) (by simp)

set_option maxRecDepth 100000 in
set_option maxHeartbeats 4000000 in
theorem rparse_no (s : List UInt8) (hs : s.length ≤ 600) (hp : ¬ ∃ t, IsPat (rdx s) t ∧ text t = s) (w : World) :
    Calls Tryd.prog 6 #[.string ⟨s.toArray⟩] w fun e w' => e = .returned (.tuple #[.slice none 0 0, .int .i64 40]) ∧ Below w.heap.size w w' := by
  have HR := Lib.hid (read0_c s hs w)
  have HP := Lib.hid hp
  clear hp
  go_enter Tryd.func6, Tryd.ntmps6
  go_wp2_with fail
  refine HR.out.mono ?_
  clear HR
  rintro e w1 ⟨hB1, ⟨ys, g, i, p, cap, hr, rfl, hN⟩ | ⟨hr, v, gz, rfl⟩⟩
  · have gi : ((i : Int) < 0) = False := by simp
    by_cases hy : ∃ t, IsPat ys t
    · obtain ⟨t, ht⟩ := hy
      have hne : text t ≠ s := rr_no s (by omega) HP.out hr t ht
      have hl := (rr_some s hr).2.1
      have hfit := rr_fit s (by omega) hr
      have hq : (text t == s) = false := by simpa using hne
      obtain ⟨b, o, rfl⟩ := hN.ptr hl
      have HT := Lib.hid (rtext_in b o ys.length cap ys rfl t ht hfit w1 (hN.at' hl b o rfl))
      clear hr ht hne hfit HP hN
      generalize text t = tt at *
      go_wp2_with fail
      refine HT.out.mono ?_
      rintro e w2 ⟨rfl, hB2⟩
      have hB12 := hB1.trans (hB2.mono hB1.size)
      clear hB1 hB2 HT
      go_wp2
      refine bodyPost_ret (v := .tuple #[.slice none 0 0, .int .i64 40]) (by simp [results, Tryd.results6, go_sem]) rfl ?_
      exact ⟨rfl, hB12⟩
    · have HT := Lib.hid (rtext_out p ys.length cap ys hy w1 hN)
      have hne := (rr_some s hr).1
      have hq : (([] : List UInt8) == s) = false := by cases s with | nil => exact absurd rfl hne | cons _ _ => rfl
      clear hr hy HP hN hne
      go_wp2_with fail
      refine HT.out.mono ?_
      rintro e w2 ⟨rfl, hB2⟩
      have hB12 := hB1.trans (hB2.mono hB1.size)
      clear hB1 hB2 HT
      go_wp2
      refine bodyPost_ret (v := .tuple #[.slice none 0 0, .int .i64 40]) (by simp [results, Tryd.results6, go_sem]) rfl ?_
      exact ⟨rfl, hB12⟩
  · clear hr HP
    go_wp2
    refine bodyPost_ret (v := .tuple #[.slice none 0 0, .int .i64 40]) (by simp [results, Tryd.results6, go_sem]) rfl ?_
    exact ⟨rfl, hB1⟩

end Go.Proofs.YthcgboebmhabeaaDoor

namespace Go.Proofs.YthcgboebmhabeaaDoor
open Go.RowKit Go.Lib
set_option linter.unusedVariables false
set_option linter.unusedSimpArgs false

theorem nodes_nil (w : World) : Nodes w none 0 [] := ⟨rfl, by omega, fun h => absurd h (by omega), fun h => absurd h (by omega), fun i x h => by simp at h⟩

set_option maxRecDepth 100000 in
set_option maxHeartbeats 4000000 in
theorem parses_wide (s : List UInt8) (hs : 600 < s.length) (w : World) (hw : Fit4 w) :
    Calls Tryd.prog 3 #[.string ⟨s.toArray⟩] w fun e w' => e = .returned (.bool true) ∧ Below w.heap.size w w' := by
  have HS := Lib.hid (shown3_c w hw)
  have h1 : ((600 : Int) < s.length) = True := by simp; omega
  go_enter Tryd.func3, Tryd.ntmps3
  go_wp2_with fail
  refine HS.out.mono ?_
  rintro e w1 ⟨rfl, hB1⟩
  go_wp2
  go_ret
  exact ⟨rfl, hB1⟩

set_option maxRecDepth 100000 in
set_option maxHeartbeats 8000000 in
theorem parses_no (s : List UInt8) (hs : s.length ≤ 600) (hp : ¬ ∃ t, IsPat (rdx s) t ∧ text t = s) (w : World) (hw : Fit4 w) :
    Calls Tryd.prog 3 #[.string ⟨s.toArray⟩] w fun e w' => e = .returned (.bool true) ∧ Below w.heap.size w w' := by
  have HS := Lib.hid (shown3_c w hw)
  have HP := Lib.hid fun w' (hf : Fit4 w') => parse_no s (by omega) hp w' hf
  have HQ := Lib.hid fun w' => rparse_no s hs hp w'
  have HI := Lib.hid fun w' => its_n none 0 0 [] (by omega) w' (nodes_nil w')
  have HE := Lib.hid fun p cap w' (h : Nodes w' p 0 []) => same_c p none 0 0 cap 0 [] [] true (by simp) w' h (nodes_nil w')
  have h1 : ((600 : Int) < s.length) = False := by simp; omega
  clear hp
  go_enter Tryd.func3, Tryd.ntmps3
  go_wp2_with fail
  refine HS.out.mono ?_
  rintro e w1 ⟨rfl, hB1⟩
  clear HS
  go_wp2_with fail
  refine (HP.out w1 (hw.below hB1)).mono ?_
  rintro e w2 ⟨rfl, hB2⟩
  have hB12 := hB1.trans (hB2.mono hB1.size)
  clear HP hB2 hB1
  go_wp2_with fail
  refine (HQ.out w2).mono ?_
  rintro e w3 ⟨rfl, hB3⟩
  have hB13 := hB12.trans (hB3.mono hB12.size)
  clear HQ hB3 hB12
  go_wp2_with fail
  refine (HI.out w3).mono ?_
  rintro e w4 ⟨⟨q, cap, rfl, hQ⟩, hB4⟩
  have hB14 := hB13.trans (hB4.mono hB13.size)
  clear HI hB4 hB13
  go_wp2_with fail
  refine (HE.out q cap w4 hQ).mono ?_
  rintro e w5 ⟨rfl, hB5⟩
  have hB15 := hB14.trans (hB5.mono hB14.size)
  clear HE hB5 hB14
  go_wp2
  go_ret
  exact ⟨rfl, hB15⟩

set_option maxRecDepth 100000 in
set_option maxHeartbeats 8000000 in
theorem parses_yes (s : List UInt8) (hs : s.length ≤ 600) (t : T) (hp : IsPat (rdx s) t) (ht : text t = s) (w : World) (hw : Fit4 w) :
    Calls Tryd.prog 3 #[.string ⟨s.toArray⟩] w fun e w' => e = .returned (.bool true) ∧ Below w.heap.size w w' := by
  have h120 : (rdx s).length ≤ 120 := hp.2.2.2.1
  have hfit := rdx_fits s (by omega)
  have HS := Lib.hid (shown3_c w hw)
  have HP := Lib.hid fun w' (hf : Fit4 w') => parse_yes s (by omega) t hp ht w' hf
  have HQ := Lib.hid fun w' => rparse_yes s hs t hp ht w'
  have HI := Lib.hid fun p cap w' (h : Nodes w' p (rdx s).length (rdx s)) => its_n p (rdx s).length cap (rdx s) (by omega) w' h
  have HE := Lib.hid fun p q cap cap' w' (h : Nodes w' p (rdx s).length (rdx s)) (h' : Nodes w' q (rdx s).length (rdx s)) => same_c p q (rdx s).length (rdx s).length cap cap' (rdx s) (rdx s) true (by simp) w' h h'
  have HF := Lib.hid hfit
  have h1 : ((600 : Int) < s.length) = False := by simp; omega
  clear hp ht hfit
  generalize rdx s = xs at *
  go_enter Tryd.func3, Tryd.ntmps3
  go_wp2_with fail
  refine HS.out.mono ?_
  rintro e w1 ⟨rfl, hB1⟩
  clear HS
  go_wp2_with fail
  refine (HP.out w1 (hw.below hB1)).mono ?_
  rintro e w2 ⟨⟨g, cap, rfl, hg, hX⟩, hB2⟩
  have hN2 := nodes_of_at rfl (by omega) HF.out hX
  have hB12 := hB1.trans (hB2.mono hB1.size)
  clear HP hB2 hB1 hX hg
  go_wp2_with fail
  refine (HQ.out w2).mono ?_
  rintro e w3 ⟨⟨p3, cap3, rfl, hP3⟩, hB3⟩
  have hN3 := hN2.below hB3
  have hB13 := hB12.trans (hB3.mono hB12.size)
  clear HQ hB3 hB12 hN2
  go_wp2_with fail
  refine (HI.out _ cap w3 hN3).mono ?_
  rintro e w4 ⟨⟨q, cap4, rfl, hQ⟩, hB4⟩
  have hP4 := hP3.below hB4
  have hB14 := hB13.trans (hB4.mono hB13.size)
  clear HI hB4 hB13 hP3 hN3
  go_wp2_with fail
  refine (HE.out q p3 cap4 cap3 w4 hQ hP4).mono ?_
  rintro e w5 ⟨rfl, hB5⟩
  have hB15 := hB14.trans (hB5.mono hB14.size)
  clear HE hB5 hB14
  go_wp2
  go_ret
  exact ⟨rfl, hB15⟩

theorem rxParsesW (s : List UInt8) (w : World) (hw : Fit4 w) :
    Calls Tryd.prog 3 #[.string ⟨s.toArray⟩] w fun e w' => e = .returned (.bool true) ∧ Below w.heap.size w w' := by
  by_cases hs : s.length ≤ 600
  · by_cases hp : ∃ t, IsPat (rdx s) t ∧ text t = s
    · obtain ⟨t, h1, h2⟩ := hp
      exact parses_yes s hs t h1 h2 w hw
    · exact parses_no s hs hp w hw
  · exact parses_wide s (by omega) w hw

theorem rxParsesB (x : ByteArray) (w : World) (_ : x.size ≤ reachBytes) (hw : Fit4 w) :
    Calls Tryd.prog 3 #[.string x] w fun e w' => e = .returned (.bool true) ∧ Below w.heap.size w w' := by
  have := rxParsesW x.data.toList w hw
  rwa [show (⟨x.data.toList.toArray⟩ : ByteArray) = x from by cases x; simp] at this

end Go.Proofs.YthcgboebmhabeaaDoor
