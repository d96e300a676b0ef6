/- Of no program: what is read is a pattern, and is printed as a text that says it again. -/
import Derived.Test.YtkmfncajdkdenaaGreatDoorYBtF
import Derived.Test.YtkmfncajdkdenaaGreatDoorYBuA
import Derived.Test.YtkmfncajdkdenaaGreatDoorYBvP
set_option linter.unusedVariables false
set_option linter.unusedSimpArgs false
set_option maxRecDepth 100000
set_option maxHeartbeats 40000000
namespace Go.Proofs.YtkmfncajdkdenaaGreatDoor
open Go.RowKit Go.Lib
theorem nodes_at : ∀ (t : T) (pre post : List Nd), T.At (fun i => (pre ++ t.nodes pre.length ++ post)[i]?) t pre.length
 | .leaf x, pre, post => by
  show (pre ++ [x] ++ post)[pre.length]? = some x
  simp
 | .two k a b, pre, post => by
  have hl : (pre ++ a.nodes pre.length).length = pre.length + a.size := by rw [List.length_append, T.nodes_len]
  have A := nodes_at a pre (b.nodes (pre.length + a.size) ++ [T.root (.two k a b) pre.length] ++ post)
  have B := nodes_at b (pre ++ a.nodes pre.length) ([T.root (.two k a b) pre.length] ++ post)
  rw [hl] at B
  have e1 : pre ++ a.nodes pre.length ++ (b.nodes (pre.length + a.size) ++ [T.root (.two k a b) pre.length] ++ post) = pre ++ (T.two k a b).nodes pre.length ++ post := by simp [T.nodes]
  have e2 : pre ++ a.nodes pre.length ++ b.nodes (pre.length + a.size) ++ ([T.root (.two k a b) pre.length] ++ post) = pre ++ (T.two k a b).nodes pre.length ++ post := by simp [T.nodes]
  rw [e1] at A
  rw [e2] at B
  refine ⟨A, B, ?_⟩
  have hl2 : (pre ++ a.nodes pre.length ++ b.nodes (pre.length + a.size)).length = pre.length + a.size + b.size := by rw [List.length_append, hl, T.nodes_len]
  show (pre ++ (T.two k a b).nodes pre.length ++ post)[pre.length + a.size + b.size]? = _
  rw [← e2, List.getElem?_append_right (by omega), hl2]
  simp
 | .times m M t, pre, post => by
  have A := nodes_at t pre ([T.root (.times m M t) pre.length] ++ post)
  have e1 : pre ++ t.nodes pre.length ++ ([T.root (.times m M t) pre.length] ++ post) = pre ++ (T.times m M t).nodes pre.length ++ post := by simp [T.nodes]
  have hl : (pre ++ t.nodes pre.length).length = pre.length + t.size := by rw [List.length_append, T.nodes_len]
  rw [e1] at A
  refine ⟨A, ?_⟩
  show (pre ++ (T.times m M t).nodes pre.length ++ post)[pre.length + t.size]? = _
  rw [← e1, List.getElem?_append_right (by omega), hl]
  simp
 | .group n t, pre, post => by
  have A := nodes_at t pre ([T.root (.group n t) pre.length] ++ post)
  have e1 : pre ++ t.nodes pre.length ++ ([T.root (.group n t) pre.length] ++ post) = pre ++ (T.group n t).nodes pre.length ++ post := by simp [T.nodes]
  have hl : (pre ++ t.nodes pre.length).length = pre.length + t.size := by rw [List.length_append, T.nodes_len]
  rw [e1] at A
  refine ⟨A, ?_⟩
  show (pre ++ (T.group n t).nodes pre.length ++ post)[pre.length + t.size]? = _
  rw [← e1, List.getElem?_append_right (by omega), hl]
  simp
theorem ndOk_two (k a b : Int) (h : k = 4 ∨ k = 5) : isNd ⟨k, 0, 0, 0, 0, a, b, 0, 0, 0⟩ = true := by
 unfold isNd
 rcases h with rfl | rfl <;> simp
theorem ndOk_times (a m M : Int) (h : isCnt m M = true) : isNd ⟨6, 0, 0, 0, 0, a, 0, m, M, 0⟩ = true := by
 unfold isNd
 simp [h]
theorem ndOk_group (a n : Int) (h : isNum n = true) : isNd ⟨7, 0, 0, 0, 0, a, 0, 0, 0, n⟩ = true := by
 unfold isNd
 simp [h]
theorem nodes_isNd : ∀ (t : T), t.Ok → ∀ (o : Nat), ∀ x ∈ t.nodes o, isNd x = true
 | .leaf y, h, o, x, hx => by
  rw [List.mem_singleton.1 hx]; exact h.1
 | .two k a b, h, o, x, hx => by
  simp only [T.nodes, List.mem_append, List.mem_singleton] at hx
  rcases hx with q | q | rfl
  ·exact nodes_isNd a h.2.1 _ x q
  ·exact nodes_isNd b h.2.2 _ x q
  ·exact ndOk_two _ _ _ h.1
 | .times m M t, h, o, x, hx => by
  simp only [T.nodes, List.mem_append, List.mem_singleton] at hx
  rcases hx with q | rfl
  ·exact nodes_isNd t h.2 _ x q
  ·exact ndOk_times _ _ _ h.1
 | .group n t, h, o, x, hx => by
  simp only [T.nodes, List.mem_append, List.mem_singleton] at hx
  rcases hx with q | rfl
  ·exact nodes_isNd t h.2 _ x q
  ·exact ndOk_group _ _ h.1
theorem kindAt_root {xs : List Nd} {t : T} {o : Nat} (h : T.At (fun i => xs[i]?) t o) (z : Int) (hz : z = (o : Int) + t.size - 1) : kindAt xs z = (t.root o).kind := by
 have := t.size_pos
 have hr := h.root
 obtain ⟨k, hk⟩ : ∃ k, o + t.size = k + 1 := ⟨o + t.size - 1, by omega⟩
 have e : o + t.size - 1 = k := by omega
 rw [e] at hr
 have ez : z = (k : Int) := by omega
 subst ez
 unfold kindAt
 simp only [Int.toNat_natCast]
 rw [hr]
theorem nodes_pOk {xs : List Nd} : ∀ (t : T) (fi la : Bool) (o : Nat), Canon fi la t → T.At (fun i => xs[i]?) t o → ∀ x ∈ t.nodes o, pOk xs x
 | .leaf y, fi, la, o, h, ha, x, hx => by
  rw [List.mem_singleton.1 hx]
  unfold pOk
  rcases h.2.2 with k | k | k | k
  ·rw [if_neg (by omega), if_neg (by omega), if_neg (by omega), if_neg (by omega)]; trivial
  ·rw [if_neg (by omega), if_neg (by omega), if_neg (by omega), if_neg (by omega)]; trivial
  ·rw [if_neg (by omega), if_neg (by omega), if_neg (by omega), if_neg (by omega)]; trivial
  ·rw [if_neg (by omega), if_neg (by omega), if_neg (by omega), if_neg (by omega)]; trivial
 | .two k a b, fi, la, o, h, ha, x, hx => by
  obtain ⟨_, rfl, hca, hcb⟩ := h
  simp only [T.nodes, List.mem_append, List.mem_singleton] at hx
  rcases hx with q | q | rfl
  ·exact nodes_pOk a _ _ _ hca ha.1 x q
  ·exact nodes_pOk b _ _ _ hcb ha.2.1 x q
  ·have ka := kindAt_root ha.1 ((o : Int) + a.size - 1) rfl
   have kb := kindAt_root ha.2.1 ((o : Int) + a.size + b.size - 1) (by omega)
   have na : (a.root o).kind ≠ 4 ∧ (a.root o).kind ≠ 5 := by
    cases a with
    | leaf y => rcases hca.2.2 with k | k | k | k <;> (simp only [T.root]; omega)
    | two _ _ _ => exact absurd hca.1 (by decide)
    | times _ _ _ => exact ⟨(by decide : (6 : Int) ≠ 4), (by decide : (6 : Int) ≠ 5)⟩
    | group _ _ => exact ⟨(by decide : (7 : Int) ≠ 4), (by decide : (7 : Int) ≠ 5)⟩
   have nb : (b.root (o + a.size)).kind ≠ 5 := by
    cases b with
    | leaf y => rcases hcb.2.2 with k | k | k | k <;> (simp only [T.root]; omega)
    | two k' _ _ =>
     have := hcb.2.1
     subst this
     exact (by decide : (4 : Int) ≠ 5)
    | times _ _ _ => exact (by decide : (6 : Int) ≠ 5)
    | group _ _ => exact (by decide : (7 : Int) ≠ 5)
   unfold pOk
   rw [if_neg (by simp [T.root]), if_pos (by rfl)]
   refine ⟨?_, ?_, ?_⟩
   ·show kindAt xs ((o : Int) + a.size - 1) ≠ 4
    rw [ka]; exact na.1
   ·show kindAt xs ((o : Int) + a.size - 1) ≠ 5
    rw [ka]; exact na.2
   ·show kindAt xs ((o : Int) + a.size + b.size - 1) ≠ 5
    rw [kb]; exact nb
 | .times m M t, fi, la, o, h, ha, x, hx => by
  obtain ⟨_, hnt, hct⟩ := h
  simp only [T.nodes, List.mem_append, List.mem_singleton] at hx
  rcases hx with q | rfl
  ·exact nodes_pOk t _ _ _ hct ha.1 x q
  ·have kt := kindAt_root ha.1 ((o : Int) + t.size - 1) rfl
   unfold pOk
   rw [if_neg (by simp [T.root]), if_neg (by simp [T.root]), if_neg (by simp [T.root]), if_pos (by rfl)]
   show kindAt xs ((o : Int) + t.size - 1) = 1 ∨ kindAt xs ((o : Int) + t.size - 1) = 7 ∨ kindAt xs ((o : Int) + t.size - 1) = 8
   rw [kt]
   cases t with
   | leaf y =>
    rcases hct.2.2 with k | k | k | k
    ·exact .inl k
    ·exact .inr (.inr k)
    ·exact absurd k.2 (by decide)
    ·exact absurd k.2 (by decide)
   | two _ _ _ => exact absurd hct.1 (by decide)
   | times _ _ _ => cases hnt
   | group _ _ => exact .inr (.inl rfl)
 | .group n t, fi, la, o, h, ha, x, hx => by
  simp only [T.nodes, List.mem_append, List.mem_singleton] at hx
  rcases hx with q | rfl
  ·exact nodes_pOk t _ _ _ h.2 ha.1 x q
  ·unfold pOk
   rw [if_neg (by simp [T.root]), if_neg (by simp [T.root]), if_neg (by simp [T.root]), if_neg (by simp [T.root])]
   trivial
theorem canon_pat {t : T} (h : Canon true true t) (hs : t.size ≤ 120) (hn : (num t (0, fun _ => false)).isSome = true) : IsPat (t.nodes 0) t := by
 have ho := canon_ok t _ _ h
 have ha : T.At (fun i => (t.nodes 0)[i]?) t 0 := by
  have := nodes_at t [] []
  simpa using this
 have hl := T.nodes_len t 0
 exact ⟨ho, ha, hl.symm, by omega, fun i x hx => nodes_isNd t ho 0 x (List.mem_of_getElem? hx), fun i x hx => nodes_pOk t _ _ 0 h ha x (List.mem_of_getElem? hx), hn⟩
theorem empty_pat : IsPat [kindNd 0] (.leaf (kindNd 0)) := by
 refine ⟨⟨by decide, .inl rfl⟩, rfl, rfl, by decide, ?_, ?_, rfl⟩
 ·intro i x hx
  have : x = kindNd 0 := by simpa using List.mem_of_getElem? hx
  subst this
  decide
 ·intro i x hx
  have : x = kindNd 0 := by simpa using List.mem_of_getElem? hx
  subst this
  rfl
theorem whole_pat (s : List UInt8) (q : BRd) (e : wholeP s = .ok q) : ∃ t, IsPat q.l t ∧ parsedL (textT t) = q.l ∧ t.size ≤ 120 ∧ t.Ok := by
 rcases whole_canon s q e with ⟨_, hl⟩ | ⟨_, t, hc, hl, hs, hn⟩
 ·refine ⟨.leaf (kindNd 0), by rw [hl]; exact empty_pat, ?_, by decide, ⟨by decide, .inl rfl⟩⟩
  rw [hl]; rfl
 ·refine ⟨t, by rw [hl]; exact canon_pat hc hs hn, ?_, hs, canon_ok t _ _ hc⟩
  obtain ⟨q', h1, h2⟩ := whole_text t hc hs hn
  unfold parsedL
  rw [h1, hl]
  exact h2
end Go.Proofs.YtkmfncajdkdenaaGreatDoor
namespace Go.Proofs.YtkmfncajdkdenaaGreatDoor
open Go.RowKit Go.Lib
theorem not_pat_nil : ¬ ∃ t, IsPat ([] : List Nd) t := by
 rintro ⟨t, ht⟩
 have h1 := ht.2.2.1
 have h2 := t.size_pos
 simp at h1
 omega
theorem parse_both (l : List UInt8) (hs : l.length ≤ 100000) : ∃ (a z : Int) (r : Bool), (z == 0) = r ∧ (r = true ↔ ∃ t, IsPat (parsedL l) t) ∧ (r = false → parsedL l = []) ∧
  (∀ w, Fit5 w → Calls Tryz.prog 10 #[.string ⟨l.toArray⟩] w fun e w' => (∃ p n cap, e = .returned (.tuple #[.slice p n cap, .int .i64 a, .int .i64 z]) ∧ Nodes w' p n (parsedL l) ∧ n ≤ 121) ∧ Below w.heap.size w w') ∧
  (∀ w, Calls Tryz.prog 11 #[.string ⟨l.toArray⟩] w fun e w' => (∃ p n cap, e = .returned (.tuple #[.slice p n cap, .int .i64 a, .int .i64 z]) ∧ Nodes w' p n (parsedL l) ∧ n ≤ 121) ∧ Below w.heap.size w w') := by
 have h1 := fun w (hw : Fit5 w) => bparse_c l (by omega) w hw.m hw.s
 have h2 := fun w => rparse_c l hs w
 cases hq : wholeP l with
 | ok q =>
  have hp : parsedL l = q.l := by unfold parsedL; rw [hq]
  obtain ⟨t, ht, _⟩ := whole_pat l q hq
  refine ⟨0, 0, true, rfl, ⟨fun _ => ⟨t, by rw [hp]; exact ht⟩, fun _ => rfl⟩, fun h => (by cases h), fun w hw => (h1 w hw).mono ?_, fun w => (h2 w).mono ?_⟩
  ·rintro e w' ⟨hout, hB⟩
   obtain ⟨p, n, cap, a, z, he, hx, hn, hok, _⟩ := pout_nodes hout
   obtain ⟨rfl, rfl⟩ := hok q hq
   exact ⟨⟨p, n, cap, he, hx, hn⟩, hB⟩
  ·rintro e w' ⟨hout, hB⟩
   have hu : parseU l = .ok q.l := by rw [parse_same, hq]
   unfold PUOut at hout
   rw [hu] at hout
   obtain ⟨p, n, cap, he, hN⟩ := hout
   have hn := (wholeP_fl l q hq).n
   exact ⟨⟨p, n, cap, he, by rw [hp]; exact hN, by rw [← hN.len]; exact hn⟩, hB⟩
 | error er =>
  obtain ⟨z, a⟩ := er
  have hp : parsedL l = [] := by unfold parsedL; rw [hq]
  have hz := (wholeP_er l (z, a) hq).2
  simp only at hz
  have z0 : (z == 0) = false := by rw [beq_eq_false_iff_ne]; omega
  have hnil : ∀ w', Nodes w' none 0 (parsedL l) := fun w' => by rw [hp]; exact ⟨rfl, by omega, fun h => by omega, fun h => by omega, fun i x hx => by simp at hx⟩
  refine ⟨a, z, false, z0, ⟨fun h => (by cases h), fun h => (by rw [hp] at h; exact absurd h not_pat_nil)⟩, fun _ => hp, fun w hw => (h1 w hw).mono ?_, fun w => (h2 w).mono ?_⟩
  ·rintro e w' ⟨hout, hB⟩
   unfold POut at hout
   rw [hq] at hout
   exact ⟨⟨none, 0, 0, hout, hnil w', by omega⟩, hB⟩
  ·rintro e w' ⟨hout, hB⟩
   have hu : parseU l = .error (z, a) := by rw [parse_same, hq]
   unfold PUOut at hout
   rw [hu] at hout
   exact ⟨⟨none, 0, 0, hout, hnil w', by omega⟩, hB⟩
theorem bparses_wide (s : ByteArray) (hs : 300 < s.size) (w : World) (hw : Fit5 w) :
  Calls Tryz.prog 4 #[.string s] w fun e w' => e = .returned (.bool true) ∧ Below w.heap.size w w' := by
 have HS := Lib.hid (shown4_c w hw)
 have h1 : ((300 : Int) < s.size) = True := by simp; omega
 go_enter Tryz.func4, Tryz.ntmps4
 go_wp2_with fail
 refine HS.out.mono ?_
 rintro e w1 ⟨rfl, hB1⟩
 go_wp2
 go_ret
 exact ⟨rfl, hB1⟩
theorem bparses_in (l : List UInt8) (hs : l.length ≤ 300) (w : World) (hw : Fit5 w) :
  Calls Tryz.prog 4 #[.string ⟨l.toArray⟩] w fun e w' => e = .returned (.bool true) ∧ Below w.heap.size w w' := by
 have hsz : (⟨l.toArray⟩ : ByteArray).size = l.length := by simp [ByteArray.size]
 have h1 : ((300 : Int) < l.length) = False := by simp; omega
 obtain ⟨a, z, r, hzr, hr, _, hA, hB⟩ := parse_both l (by omega)
 generalize parsedL l = xs at *
 have HA := Lib.hid hA
 have HBP := Lib.hid hB
 have HR := Lib.hid hr
 have HSN := Lib.hid (shown4_c w hw)
 have HW := Lib.hid hw
 clear hA hB hr hw
 go_enter Tryz.func4, Tryz.ntmps4
 go_wp2_with fail
 refine HSN.out.mono ?_
 rintro e w1 ⟨rfl, hB1⟩
 have F1 := Lib.hid (HW.out.below hB1)
 have B1 := Lib.hid hB1
 clear hB1 HSN HW
 go_wp2_with fail
 refine (HA.out _ F1.out).mono ?_
 rintro e w2 ⟨⟨p, n, cap, rfl, hN, hn⟩, hB2⟩
 have B2 := Lib.hid (B1.out.trans (hB2.mono B1.out.size))
 have N2 := Lib.hid hN
 clear hB2 HA F1 B1 hN
 go_wp2_with fail
 refine (HBP.out _).mono ?_
 rintro e w3 ⟨⟨p3, n3, cap3, rfl, hN3, hn3⟩, hB3⟩
 have B3 := Lib.hid (B2.out.trans (hB3.mono B2.out.size))
 have N23 := Lib.hid (N2.out.below hB3)
 have N3 := Lib.hid hN3
 clear hB3 HBP B2 hN3 N2
 go_wp2_with fail
 refine (its4_n p n cap xs (by omega) _ N23.out).mono ?_
 rintro e w4 ⟨⟨p4, cap4, rfl, hN4⟩, hB4⟩
 have B4 := Lib.hid (B3.out.trans (hB4.mono B3.out.size))
 have N24 := Lib.hid (N23.out.below hB4)
 have N34 := Lib.hid (N3.out.below hB4)
 have N4 := Lib.hid hN4
 clear hB4 B3 hN4 N23 N3
 go_wp2_with fail
 refine (same_c p4 p3 n n3 cap4 cap3 xs xs true ⟨fun _ => rfl, fun _ => rfl⟩ _ N4.out N34.out).mono ?_
 rintro e w5 ⟨rfl, hB5⟩
 have B5 := Lib.hid (B4.out.trans (hB5.mono B4.out.size))
 have N25 := Lib.hid (N24.out.below hB5)
 clear hB5 B4 N24 N34 N4
 go_wp2_with fail
 refine (may_n p n cap xs r HR.out _ N25.out).mono ?_
 rintro e w6 ⟨rfl, hB6⟩
 have B6 := Lib.hid (B5.out.trans (hB6.mono B5.out.size))
 clear hB6 B5 N25 HR
 cases r with
 | true =>
  go_wp2
  go_ret
  exact ⟨rfl, B6.out⟩
 | false =>
  go_wp2
  go_ret
  exact ⟨rfl, B6.out⟩
theorem breParsesB (s : ByteArray) (w : World) (_ : s.size ≤ Go.reachBytes) (hw : Fit5 w) :
  Calls Tryz.prog 4 #[.string s] w fun e w' => e = .returned (.bool true) ∧ Below w.heap.size w w' := by
 by_cases h : 300 < s.size
 ·exact bparses_wide s h w hw
 ·have e : s = ⟨s.data.toList.toArray⟩ := by simp
  have hl : s.data.toList.length ≤ 300 := by simp; omega
  rw [e]
  exact bparses_in _ hl w hw
end Go.Proofs.YtkmfncajdkdenaaGreatDoor
