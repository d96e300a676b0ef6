/- Of any nodes, any text, any two places and any number: whether the pattern fits the whole part between the places, what each group has then, and what the group of that number has, are what the document's own tables and way to fit say. Condition: the listed library variables read as the program's text lays them. -/
import Derived.Test.YtjgegohidhdbpaaGreatDoorJMaE
import Derived.Test.YtjgegohidhdbpaaGreatDoorJMeS
import Derived.Laws.IdiomArrays
open Go.Proofs.Tryz
set_option linter.unusedVariables false
set_option linter.unusedSimpArgs false
set_option maxRecDepth 100000
set_option maxHeartbeats 40000000
namespace Go.Proofs.YtjgegohidhdbpaaGreatDoor.matchWhole
open Go.ChangeShapes Go.WideShapes Go.ChangeAt Go.RowKit Go.Proofs.YtjgegohidhdbpaaGreatDoor
open Go.ChangeMaps (open_string shut_string)
theorem lifted (os : Os) (started : os.Started) (H : Type) (enc : TypeId × Value → H) :
  ReturnsInHanded {} Tryz.checked os 3 .any (fun w args => (Rows.matchWholeSpec.pre enc prog Tryz.f3 [] false w args ∧ laidMetH prog ZP w) ∧ sizedMet enc prog Tryz.f3 (OpenSpec.ofChange Rows.matchWholeSpec) false w args)
   (Rows.matchWholeSpec.post enc prog Tryz.f3 false true false false) := by
 refine Kt (C := Tryz.checked) (X := fun w _ => laidMetH prog ZP w) (fun _ _ _ hh h => h.of_heap hh) own started (by kernel_rfl) func3
  (ChangeSpec.witness_shaped (enc := enc) (C := Tryz.checked) (os := os) (X := fun w _ => laidMetH prog ZP w) false (World.doorLaid prog 400 os) #[.slice none 0 0, .string ByteArray.empty, .int .i64 0, .int .i64 0, .int .i64 0] 8 rfl (World.shaped_of_RefB (by kernel_rfl) (by kernel_rfl)) (by kernel_rfl) (by kernel_rfl) (by kernel_rfl) (qb6 os _)) ?_
 intro W base args ds gs before hval0 hW hz hL hsh
 have Ku : ∀ (j : Nat) t v, Tryz.f3.params[j]? = some t → args[j]? = some v → Value.okWide prog W .any base t v := hval0
 have hW' := hW
 obtain ⟨p, q, hA0, hV, rfl, _, _⟩ := hW
 have hA : DataW.TrodAll enc prog W 0 (fun _ => true) true Tryz.f3.params.toList args.toList ds p := hA0
 rw [Tryz.params3] at hA Ku
 obtain ⟨v0, vs0, d0, ds0, p0, q0, hargs, rfl, rfl, h0, r0⟩ := trodAll_cons hA
 obtain ⟨v1, vs1, d1, ds1, p1, q1, rfl, rfl, rfl, h1, r1⟩ := trodAll_cons r0
 obtain ⟨v2, vs2, d2, ds2, p2, q2, rfl, rfl, rfl, h2, r2⟩ := trodAll_cons r1
 obtain ⟨v3, vs3, d3, ds3, p3, q3, rfl, rfl, rfl, h3, r3⟩ := trodAll_cons r2
 obtain ⟨v4, vs4, d4, ds4, p4, q4, rfl, rfl, rfl, h4, r4⟩ := trodAll_cons r3
 obtain ⟨rfl, rfl, rfl⟩ := trodAll_nil r4
 obtain rfl : args = #[v0, v1, v2, v3, v4] := by cases args; simp_all
 obtain ⟨rfl, rfl⟩ := trodVars_none hV
 have qM := XT hL hsh
 clear hA0 hval0
 simp only [List.append_nil] at hW' hz
 have hlt0 := hW'.lt
 obtain ⟨a0, n0, cap0, rfl⟩ := okWide_slice underlying22 (Ku 0 22 v0 rfl rfl)
 have hlt0_ : ∀ x ∈ p0, x.block < W.heap.size := fun x hx => by simpa using hlt0 x (by simp [hx])
 have qhF : ∀ (W' : World), Below W.heap.size W W' → DataW.Trod enc prog W' 0 (fun b => decide (b < W.heap.size)) true 22 (.slice a0 n0 cap0) d0 p0 :=
  fun W' hn => Below.trod laidOut (by kernel_rfl) (of_decide_eq_true (by kernel_rfl)) h0 hn hlt0_
 obtain ⟨xs0, hN0⟩ := Uu h0 (fun el spare e => by
  have := sized_slice hz (j := 0) (t := 22) (elems := el) (spare := spare) rfl (by rw [e]; rfl) underlying22
  rw [show Tryz.checked.prog.bytesOf 57 = 80 from qhG] at this
  exact this)
 obtain ⟨t, rfl, rfl, rfl, wt⟩ := open_string underlying9 (Ku 1 9 v1 rfl rfl) h1
 have GP : t.size ≤ reachBytes := by
  have := sized_string hz (j := 1) (t := 9) rfl rfl
  simpa using this
 obtain ⟨i, rfl, rfl, rfl, wi⟩ := open_int underlying3 (Ku 2 3 v2 rfl rfl) h2
 obtain ⟨j, rfl, rfl, rfl, wj⟩ := open_int underlying3 (Ku 3 3 v3 rfl rfl) h3
 obtain ⟨n, rfl, rfl, rfl, wn⟩ := open_int underlying3 (Ku 4 3 v4 rfl rfl) h4
 refine (XU a0 n0 cap0 xs0 t i j n W hN0 GP (kN wi) (kN wj) (kN wn) qM).mono fun e W' ⟨he, hb⟩ => ?_
 subst he
 exact ⟨_, rfl, ⟨_, _, _, [], _, [], hW', (trodAll_cons_mk (shut_bool underlying4 _) trodAll_mk0), (trodAll_cons_mk (qhF W' hb) (trodAll_cons_mk (shut_string underlying9 wt) (trodAll_cons_mk (shut_int underlying3 wi) (trodAll_cons_mk (shut_int underlying3 wj) (trodAll_cons_mk (shut_int underlying3 wn) trodAll_mk0))))), rfl, hb.frame _, fun h => by cases h⟩⟩
theorem qaN : Rows.MatchWholeSaid :=
 OpenClaim.holds_of_wide 3 Tryz.f3 rfl rfl rfl rfl rfl rfl rfl ⟨rfl, rfl, rfl, rfl, rfl⟩ rfl rfl rfl rfl rfl (by kernel_rfl) func3 (by kernel_rfl)
  (of_decide_eq_true (by kernel_rfl)) (by unfold Func.isWrapper; first | (rw [if_pos (by decide +kernel)]; kernel_rfl) | (rw [if_neg (by decide +kernel)]; exact ⟨rfl, rfl⟩))
  (fun os started H enc _ => lifted os started H enc)
theorem proved : Rows.MatchWholeCardSaid :=
 Claim7.holds_tied_plain_at .later [] [.data, .data, .data, .sentinel, .sentinel] true Rows.matchWholeCard.stood.harness Rows.matchWholeCard.stood.looks
  qaN (fun _ h => by cases h) (by kernel_rfl) (fun _ h => by cases h) matchWhole_row_tie rfl ⟨rfl, rfl⟩ (by kernel_rfl) rfl
  (fun f fn hf hfn => by
   obtain rfl : f = 3 := Option.some.inj ((show Tryz.prog.funcNamed "calender/calenderlaw06.MatchWhole" = some 3 by kernel_rfl).symm.trans hf) |>.symm
   obtain rfl : fn = Tryz.f3 := (Option.some.inj (Tryz.func3.symm.trans hfn)).symm
   exact ⟨by kernel_rfl, fun j t ht => by
    rw [Tryz.params3] at ht
    have hm : t ∈ [22, 9, 3, 3, 3] := by simpa using Array.mem_of_getElem? ht
    have yJ : ([22, 9, 3, 3, 3].all fun u => !Tryz.prog.wantsStandIn u) = true := by kernel_rfl
    exact (show Tryz.prog.wantsStandIn t = false by simpa using List.all_eq_true.1 yJ t hm)⟩)
  (by kernel_rfl)
end Go.Proofs.YtjgegohidhdbpaaGreatDoor.matchWhole
