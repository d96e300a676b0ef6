/- The reference's row. -/
import Derived.Test.YtkcbknfhckomcaaGreatDoorYBvJ
import Derived.Deep.LoopGhost
set_option linter.unusedVariables false
set_option linter.unusedSimpArgs false
set_option maxRecDepth 100000
set_option maxHeartbeats 40000000
namespace Go.Proofs.YtkcbknfhckomcaaGreatDoor
open Go.RowKit Go.Lib
theorem own_shape {W : World} {B z n : Nat} {e : TypeId} {v : Value} {l : List Value} (h : W.ownsRow B e z v n l) : ∃ p c, v = .slice p n c := by
 rcases h.2 with ⟨h1, h2⟩ | ⟨g, cap, cur, h1, _⟩
 ·exact ⟨none, 0, by rw [h1, h2]⟩
 ·exact ⟨_, _, h1⟩
def rowEnd : Except Er (List Int × BRd) → Except Er BRd
 | .error e => .error e
 | .ok (ps, q) => .ok (catsU ps.reverse.tail q)
theorem rowU_one (s : List UInt8) (f : Nat) (r : BRd) : rowU s (f + 1) r = rowEnd (itemsU s (rowU s f) (s.length + 1) (if ah s r.p [94] then (r.to (r.p + 1)).pu (kindNd 2) else r) true (if ah s r.p [94] then [(r.l.length : Int)] else [])) := by
 rw [rowU]
 unfold rowEnd
 rfl
def behEnd (s : List UInt8) (row : BRd → Except Er BRd) (fu : Nat) (ts : List Int) : Except Er BRd → Except Er (List Int × BRd)
 | .error e => .error e
 | .ok q' => itemsU s row fu q' false (ts ++ [(q'.l.length : Int) - 1])
theorem LS.leaf {w wr : World} {b : Nat} {q : BRd} {p p' : Option Addr} {c c' B : Nat} {tv : Value} {ts : List Int} (h : LS w wr b q p c tv ts) (nd : Nd) (hr : RRow wr B (.slice p' (q.l.length + 1) c') (q.l.length + 1) (q.l ++ [nd])) :
  LS w (wr.setRow b (sc (.slice p' (q.l.length + 1) c') q.g q.en 0 0)) b (q.pu nd) p' c' tv ts := by
 have h := h.put (q.pu nd) p' c' (by rw [pu_len]; exact row_weak hr (Nat.zero_le _))
 rw [pu_len] at h
 exact h
theorem LS.bad {w wr : World} {b : Nat} {r : BRd} {p : Option Addr} {c : Nat} {tv : Value} {ts : List Int} (h : LS w wr b r p c tv ts) (v : Value) (g : Int) (en : Nat → Bool) (a e : Int) :
  ST (wr.setRow b (sc v g en a e)) b v g en a e ∧ ST (wr.setRow b (sc v g en a e)) (b + 1) (.slice none 0 0) 0 (fun _ => false) 0 0 ∧ Below b w (wr.setRow b (sc v g en a e)) :=
 ⟨h.s.put _ _ _ _ _, h.z.setRow_other (by omega) _, Below.setRow h.B (Nat.le_refl _) _⟩
theorem row_step (s : List UInt8) (hs : s.length ≤ 100000) (f : Nat) (HC : RowCU s f) : RowCU s (f + 1) := by
 intro r p c w hf hg9 hp hl3 hrow
 have hs1 : s.length ≤ 100000 := by omega
 have hsz : (⟨s.toArray⟩ : ByteArray).size = s.length := by simp [ByteArray.size]
 obtain ⟨hz, hsz2⟩ := zero_of_info (P := Tryz.prog) infoSt
 rw [rowU_one]
 obtain ⟨k94, hk94⟩ : ∃ k, k = ah s r.p [94] := ⟨_, rfl⟩
 rw [← hk94]
 obtain ⟨R, hR⟩ : ∃ R, R = rowEnd (itemsU s (rowU s f) (s.length + 1) (if k94 then (r.to (r.p + 1)).pu (kindNd 2) else r) true (if k94 then [(r.l.length : Int)] else [])) := ⟨_, rfl⟩
 rw [← hR]
 have HR := Lib.hid hR
 have K94 := Lib.hid hk94
 clear hR hk94
 obtain ⟨b, hb⟩ : ∃ b, b = w.heap.size := ⟨_, rfl⟩
 obtain ⟨W0, hW⟩ : ∃ W0, W0 = (w.alloc (.cells (sc (.slice p r.l.length c) r.g r.en 0 0) 69)).alloc (.cells (sc (.slice none 0 0) 0 (fun _ => false) 0 0) 69) := ⟨_, rfl⟩
 have s0 : W0.heap.size = b + 2 := by rw [hW, hb]; simp
 have hL0 : LS w (W0.alloc (.cells #[] 3)) b r p c (.slice (some ⟨b + 2, 0, none⟩) 0 0) [] := by
  rw [← s0]
  have hA : Below W0.heap.size W0 (W0.alloc (.cells #[] 3)) := (Below.refl _ W0).alloc (Nat.le_refl _) _
  have hS : ST W0 b (.slice p r.l.length c) r.g r.en 0 0 := by rw [hW, hb]; exact (ST.new w _ _ _ _ _).alloc _
  have hZ : ST W0 (b + 1) (.slice none 0 0) 0 (fun _ => false) 0 0 := by
   rw [hW, hb]
   have := ST.new (w.alloc (.cells (sc (.slice p r.l.length c) r.g r.en 0 0) 69)) (.slice none 0 0) 0 (fun _ => false) 0 0
   rwa [World.size_alloc] at this
  have hB0 : Below b w W0 := by rw [hW, hb]; exact ((Below.refl _ w).alloc (Nat.le_refl _) _).alloc (by simp) _
  have hX0 : RRow W0 0 (.slice p r.l.length c) r.l.length r.l := by rw [hW]; exact row_alloc (row_alloc hrow _) _
  exact ⟨hS.below hA hS.lt, hZ.below hA hZ.lt, row_below hX0 hA, ⟨rfl, .inr ⟨_, 0, #[], rfl, by omega, heap_new W0 _, Nat.le_refl _, Nat.zero_le _, rfl, rfl⟩⟩, hB0.trans (hA.mono (by omega))⟩
 have HL0 := Lib.hid hL0
 have HW := Lib.hid hW
 have HB := Lib.hid hb
 have HC := Lib.hid HC
 clear hW hb hL0 hsz2 hrow
 generalize hC0 : sc (.slice none 0 0) 0 (fun _ => false) 0 0 = C0 at hz HW
 generalize hC1 : sc (.slice p r.l.length c) r.g r.en 0 0 = C1 at HW ⊢
 go_enter Tryz.func33, Tryz.ntmps33
 go_upto_region 1 with fail
 rw [← HW.out, ← HB.out]
 clear HW hz
 subst hC1 hC0
 have ew1 : IntKind.i64.wrap ((r.p : Int) + 1) = (r.p : Int) + 1 := by simp [IntKind.wrap, IntKind.signed, IntKind.bits]; omega
 go_upto_region 2 with fail
 generalize W0.alloc (.cells #[] 3) = W1 at *
 generalize (Value.slice (some ⟨b + 2, 0, none⟩) 0 0) = tv0 at *
 clear s0
 go_cut [21] (fun v wx => v = .bool k94 ∧ wx = W1)
 case first =>
  clear HR HL0
  by_cases hlt : r.p < s.length
  ·have g1 : ((r.p : Int) < s.length) = True := by simp; omega
   obtain ⟨d, hd⟩ : ∃ d, s[r.p]? = some d := ⟨_, List.getElem?_eq_getElem hlt⟩
   have xi := fun W => ixm_c s r.p d hd W
   by_cases h94 : d = 94
   ·subst h94
    obtain rfl : k94 = true := K94.out.trans (by rw [ah_one, hd]; rfl)
    clear K94 hd
    go_wp2_with fail
    go_meet
    exact ⟨rfl, rfl⟩
   ·have c94 : ((d.toNat : Int) == 94) = false := u8_ne (d := 94) h94
    obtain rfl : k94 = false := K94.out.trans (by rw [ah_one, hd]; simpa using h94)
    clear K94 hd h94
    generalize d.toNat = D at *
    go_wp2_with fail
    go_meet
    exact ⟨rfl, rfl⟩
  ·have g1 : ((r.p : Int) < s.length) = False := by simp; omega
   obtain rfl : k94 = false := K94.out.trans (by rw [ah_one, List.getElem?_eq_none (by omega)]; rfl)
   clear K94
   go_wp2_with fail
   go_meet
   exact ⟨rfl, rfl⟩
 case rest =>
  obtain ⟨rfl, hwc⟩ := hcut
  subst hwc
  go_upto_if 21 with fail
  go_cut [1, 8] (fun iv tv wx => ∃ (r1 : BRd) (p1 : Option Addr) (c1 : Nat) (ts : List Int), iv = .int .i64 (r1.p : Int) ∧ LS w wx b r1 p1 c1 tv ts ∧ Hid (R = rowEnd (itemsU s (rowU s f) (s.length + 1) r1 true ts)) ∧ r1.p ≤ s.length ∧ r1.g = r.g ∧ r1.l.length + ts.length ≤ 3 * r1.p)
  case first =>
   cases k94 with
   | false =>
    have HR2 : Hid (R = rowEnd (itemsU s (rowU s f) (s.length + 1) r true [])) := HR
    clear HR HC
    go_wp2_with fail
    go_meet
    exact ⟨r, p, c, [], rfl, HL0.out, HR2, hp, rfl, by simp; omega⟩
   | true =>
    have hle := ah_le K94.out.symm
    simp only [List.length_cons, List.length_nil] at hle
    have hp1 : r.p + 1 ≤ s.length := by
     rcases hle with t | t
     ·exact t
     ·cases t
    have HR2 : Hid (R = rowEnd (itemsU s (rowU s f) (s.length + 1) ((r.to (r.p + 1)).pu (kindNd 2)) true [(r.l.length : Int)])) := HR
    clear HR HC hle
    have hlf := fun w (h : RRow w 0 (.slice p r.l.length c) r.l.length r.l) => leafU_c p r.l.length c r.g r.en 0 0 (kindNd 2) r.l (by omega) w h
    unfold kindNd Nd.cells at hlf
    dsimp only at hlf
    have HLF := Lib.hid hlf
    clear hlf
    go_upto_region 3 with fail
    refine wp_region_lit ?_
    refine wpl_load_st HL0.out.s rfl rfl rfl ?_
    try simp only [Act.put, laS]
    go_wp2_with fail
    refine (HLF.out _ HL0.out.x).mono ?_
    rintro e wl ⟨p9, c9, rfl, hr9, hBl⟩
    have hLl := HL0.out.below hBl
    have S0 := hLl.s.storeCells (v' := .slice p9 (r.l.length + 1) c9) rfl r.g r.en 0 0
    have hLp := hLl.leaf (kindNd 2) hr9
    clear hLl hr9 hBl HLF
    go_upto_region 4 with fail
    generalize wl.setRow b _ = wq at *
    have HL := Lib.hid hLp
    clear S0 hLp
    have cl0 : wq.cell? ⟨b, 0, none⟩ = some (.slice p9 (r.l.length + 1) c9) := by have h := HL.out.s.cell 0; rw [pu_len] at h; exact h
    have ewl : IntKind.i64.wrap ((r.l.length : Int)) = (r.l.length : Int) := by simp [IntKind.wrap, IntKind.signed, IntKind.bits]; omega
    have hA := HL.out.below ((Below.refl _ wq).alloc (Nat.le_refl _) (.cells #[.int .i64 ((r.l.length : Int))] 3))
    have hbq : b ≤ wq.heap.size := by have := HL.out.s.lt; omega
    have htl : (([] : List Int)).length ≤ 1000000 := by first | omega | (simp only [List.length_nil]; omega)
    have HA := Lib.hid hA
    clear hA HL
    go_wp2_with (at_builtin; refine wpl_snoc_int rfl rfl rfl HA.out.t (heap_new _ _) rfl htl (by omega) ?_)
    intro tv9 wt ht9 hg9
    have HT := Lib.hid (HA.out.push hg9 ht9)
    clear HA cl0 ht9 hg9 htl
    go_wp2_with fail
    go_meet
    exact ⟨(r.to (r.p + 1)).pu (kindNd 2), p9, c9, [(r.l.length : Int)], by show _ = Value.int .i64 ((r.p + 1 : Nat) : Int); simp, HT.out.to (r.p + 1), HR2, hp1, rfl, by rw [pu_len]; show r.l.length + 1 + 1 ≤ 3 * (r.p + 1); omega⟩
  case rest =>
   obtain ⟨r1, p1, c1, ts1, rfl, hL1, hR1, hp1, hg1, hl1⟩ := hcut
   have HL1 := Lib.hid hL1
   clear hL1 HR HL0 K94 ew1
   go_upto_block 0 with fail
   go_cut [1, 8, 9] (fun iv tv fv wx => ∃ (r2 : BRd) (p2 : Option Addr) (c2 : Nat) (ts : List Int), iv = .int .i64 (r2.p : Int) ∧ LS w wx b r2 p2 c2 tv ts ∧ Hid (R = .ok (catsU ts.reverse.tail r2)) ∧ r2.p ≤ s.length ∧ r2.l.length + ts.length ≤ 3 * r2.p)
   case first =>
    go_wp2_with fail
    go_loopg [1, 8, 9] (s.length - r1.p) (fun gm iv tv fv wx => ∃ (r2 : BRd) (p2 : Option Addr) (c2 : Nat) (ts : List Int) (fi : Bool) (fu : Nat), gm = s.length - r2.p ∧ iv = .int .i64 (r2.p : Int) ∧ fv = .bool fi ∧ LS w wx b r2 p2 c2 tv ts ∧ Hid (R = rowEnd (itemsU s (rowU s f) fu r2 fi ts)) ∧ r2.p ≤ s.length ∧ s.length < fu + r2.p ∧ r.g ≤ r2.g ∧ r2.g ≤ 9 ∧ r2.l.length + ts.length ≤ 3 * r2.p)
    case atStart => exact ⟨r1, p1, c1, ts1, true, s.length + 1, rfl, rfl, rfl, HL1.out, hR1, hp1, by omega, by omega, by omega, hl1⟩
    case round =>
     obtain ⟨q, pq, cq, ts, fi, fu, rfl, rfl, rfl, hL, hRq, hqp, hfu, hqg, hqg9, hql⟩ := hrel
     have HLq := Lib.hid hL
     clear hL HL1 hR1 hl1 hg1
     obtain ⟨fu, rfl⟩ : ∃ k, fu = k + 1 := ⟨fu - 1, by omega⟩
     have hR2 := hRq.out
     rw [itemsU] at hR2
     have HR2 := Lib.hid hR2
     clear hR2 hRq
     have hcl := fun w => closesU_c s hs1 q.p hqp w
     obtain ⟨en, hen⟩ : ∃ e, e = endsP s q.p := ⟨_, rfl⟩
     rw [← hen] at hcl
     have HCL := Lib.hid hcl
     have HEN := Lib.hid hen
     clear hcl hen
     go_wp2_with fail
     refine (HCL.out _).mono ?_
     rintro e wl ⟨rfl, hwl⟩
     subst hwl
     clear HCL
     cases en with
     | true =>
      have HRE : Hid (R = .ok (catsU ts.reverse.tail q)) := Lib.hid (HR2.out.trans (by rw [if_pos HEN.out.symm]; rfl))
      clear HR2
      go_wp2_with fail
      go_meet
      exact ⟨q, pq, cq, ts, rfl, HLq.out, HRE, hqp, hql⟩
     | false =>
      have hlt : q.p < s.length := by
       have h := HEN.out
       unfold endsP at h
       have := (Bool.or_eq_false_iff.1 h.symm).1
       rw [decide_eq_false_iff_not] at this
       omega
      have HR3 := Lib.hid (HR2.out.trans (congrArg rowEnd (if_neg (by rw [← HEN.out]; decide))))
      clear HR2 HEN
      obtain ⟨d, hd⟩ : ∃ d, s[q.p]? = some d := ⟨_, List.getElem?_eq_getElem hlt⟩
      have xi := fun W => ixm_c s q.p d hd W
      have ew1 : IntKind.i64.wrap ((q.p : Int) + 1) = (q.p : Int) + 1 := by simp [IntKind.wrap, IntKind.signed, IntKind.bits]; omega
      obtain ⟨dl, hdl⟩ : ∃ x, x = decide (s[q.p]? = some 36 ∧ endsP s (q.p + 1) = true) := ⟨_, rfl⟩
      have HDL := Lib.hid hdl
      clear hdl
      obtain ⟨wr, hwr⟩ : ∃ x, x = wl := ⟨_, rfl⟩
      subst hwr
      go_upto_region 9 with fail
      go_cut [47] (fun v wx => v = .bool dl ∧ wx = wr)
      case first =>
       clear HR3 HLq
       by_cases h36 : d = 36
       ·subst h36
        have hcl : ∀ w, Calls Tryz.prog 54 #[.string ⟨s.toArray⟩, .int .i64 ((q.p : Int) + 1)] w fun e w' => e = .returned (.bool (endsP s (q.p + 1))) ∧ w' = w := fun w => by simpa using closesU_c s hs1 (q.p + 1) hlt w
        have hdl2 : dl = endsP s (q.p + 1) := HDL.out.trans (by rw [hd]; cases endsP s (q.p + 1) <;> simp)
        rw [← hdl2] at hcl
        have HCL := Lib.hid hcl
        clear hcl hdl2 HDL hd
        go_wp2_with fail
        refine (HCL.out _).mono ?_
        rintro e w9 ⟨rfl, hw9⟩
        subst hw9
        go_wp2
        go_meet
        exact ⟨rfl, rfl⟩
       ·have c36 : ((d.toNat : Int) == 36) = false := u8_ne (d := 36) h36
        obtain rfl : dl = false := HDL.out.trans (by rw [hd]; simp [h36])
        clear HDL hd h36
        generalize d.toNat = Dn at *
        go_wp2_with fail
        go_meet
        exact ⟨rfl, rfl⟩
      case rest =>
       obtain ⟨rfl, hwc⟩ := hcut
       subst hwc
       have hdl := HDL.out
       cases dl with
       | true =>
        have hd36 : s[q.p]? = some 36 ∧ endsP s (q.p + 1) = true := of_decide_eq_true hdl.symm
        have hfu2 : ∃ k, fu = k + 1 := ⟨fu - 1, by omega⟩
        have HRE : Hid (R = .ok (catsU (ts ++ [(q.l.length : Int)]).reverse.tail ((q.to (q.p + 1)).pu (kindNd 3)))) := Lib.hid (HR3.out.trans (by
         obtain ⟨k, rfl⟩ := hfu2
         rw [if_pos hd36, itemsU]
         rw [if_pos (show endsP s ((q.to (q.p + 1)).pu (kindNd 3)).p = true from hd36.2)]
         rfl))
        clear HR3 hd36 hfu2 HDL hdl hd HC
        have hlf := fun w (h : RRow w 0 (.slice pq q.l.length cq) q.l.length q.l) => leafU_c pq q.l.length cq q.g q.en 0 0 (kindNd 3) q.l (by omega) w h
        unfold kindNd Nd.cells at hlf
        dsimp only at hlf
        have HLF := Lib.hid hlf
        clear hlf
        go_upto_region 10 with fail
        refine wp_region_lit ?_
        refine wpl_load_st HLq.out.s rfl rfl rfl ?_
        try simp only [Act.put, laS]
        go_wp2_with fail
        refine (HLF.out _ HLq.out.x).mono ?_
        rintro e wl ⟨p9, c9, rfl, hr9, hBl⟩
        have hLl := HLq.out.below hBl
        have S0 := hLl.s.storeCells (v' := .slice p9 (q.l.length + 1) c9) rfl q.g q.en 0 0
        have hLp := hLl.leaf (kindNd 3) hr9
        clear hLl hr9 hBl HLF
        go_upto_region 11 with fail
        generalize wl.setRow b _ = wq at *
        have HL := Lib.hid hLp
        clear S0 hLp
        have cl0 : wq.cell? ⟨b, 0, none⟩ = some (.slice p9 (q.l.length + 1) c9) := by have h := HL.out.s.cell 0; rw [pu_len] at h; exact h
        have ewl : IntKind.i64.wrap ((q.l.length : Int)) = (q.l.length : Int) := by simp [IntKind.wrap, IntKind.signed, IntKind.bits]; omega
        have hA := HL.out.below ((Below.refl _ wq).alloc (Nat.le_refl _) (.cells #[.int .i64 ((q.l.length : Int))] 3))
        have hbq : b ≤ wq.heap.size := by have := HL.out.s.lt; omega
        have htl : (ts).length ≤ 1000000 := by first | omega | (simp only [List.length_nil]; omega)
        have HA := Lib.hid hA
        clear hA HL
        go_wp2_with (at_builtin; refine wpl_snoc_int rfl rfl rfl HA.out.t (heap_new _ _) rfl htl (by omega) ?_)
        intro tv9 wt ht9 hg9
        have HT := Lib.hid (HA.out.push hg9 ht9)
        clear HA cl0 ht9 hg9 htl
        go_wp2_with fail
        go_meet
        exact ⟨(q.to (q.p + 1)).pu (kindNd 3), p9, c9, ts ++ [(q.l.length : Int)], by show _ = Value.int .i64 ((q.p + 1 : Nat) : Int); simp, HT.out.to (q.p + 1), HRE, hlt, by rw [pu_len, List.length_append, List.length_singleton]; show q.l.length + 1 + (ts.length + 1) ≤ 3 * (q.p + 1); omega⟩
       | false =>
        have hnd : ¬ (s[q.p]? = some 36 ∧ endsP s (q.p + 1) = true) := of_decide_eq_false hdl.symm
        have HR4 := Lib.hid (HR3.out.trans (congrArg rowEnd (if_neg hnd)))
        have hat := fun w h => atomUU_c s hs f HC.out q hlt (by omega) hqg9 (by omega) fi pq cq w h
        have hgo := atomU_goes (s := s) (row := rowU s f) (r := q) (first := fi) hlt hqg9 (fun h9 => rowU_goes s f (q.g + 1) (by omega) (by omega))
        clear HR3 hnd HDL hdl hd
        obtain ⟨X, hX⟩ : ∃ X, X = atomU s (rowU s f) q fi := ⟨_, rfl⟩
        rw [← hX] at hat HR4 hgo
        have HAT := Lib.hid hat
        have HGO := Lib.hid hgo
        clear hat hgo hX
        go_upto_region 13 with fail
        refine wp_region_lit ?_
        refine wpl_move rfl rfl ?_
        refine wpl_move rfl rfl ?_
        refine wpl_move rfl rfl ?_
        refine wpl_load_st HLq.out.s rfl rfl rfl ?_
        try simp only [Act.put, laS]
        go_wp2_with fail
        refine (HAT.out _ HLq.out.x).mono ?_
        rintro e wl hso
        clear HAT
        cases X with
        | error z =>
         obtain ⟨er, at_⟩ := z
         obtain ⟨p2, n2, c2, g2, en2, k2, rfl, hB2⟩ := hso
         have hne : er ≠ 0 := HGO.out.1 (er, at_) rfl
         have HRE : Hid (R = .error (er, at_)) := HR4
         have hLl := HLq.out.below hB2
         clear HGO HR4 HLq hB2
         have S0 := hLl.s.storeCells (v' := .slice p2 n2 c2) rfl g2 en2 at_ er
         have hbad := hLl.bad (.slice p2 n2 c2) g2 en2 at_ er
         go_upto_region 14 with fail
         generalize wl.setRow b _ = wq at *
         obtain ⟨hS9, hZ9, hB9⟩ := hbad
         have ce : wq.cell? ⟨b, 13, none⟩ = some (.int .i64 er) := hS9.cell 13
         have HS9 := Lib.hid hS9
         have HZ9 := Lib.hid hZ9
         have HB9 := Lib.hid hB9
         have hnz : ((er : Int) != 0) = true := by rw [bne_iff_ne]; exact hne
         have hnz2 : ((er : Int) == 0) = false := by rw [beq_eq_false_iff_ne]; exact hne
         clear S0 hS9 hZ9 hB9
         go_upto_region 17 with fail
         refine wp_region_lit ?_
         refine wpl_load_st HS9.out rfl rfl rfl ?_
         try simp only [Act.put, laS]
         have S1 := HZ9.out.storeCells (v' := .slice p2 n2 c2) rfl g2 en2 at_ er
         have q := (HZ9.out.put (.slice p2 n2 c2) g2 en2 at_ er).load
         have HQ := Lib.hid q
         have HB8 := Lib.hid (Below.setRow HB9.out (show b ≤ b + 1 by omega) (sc (.slice p2 n2 c2) g2 en2 at_ er))
         clear q HS9 HZ9 HB9 ce
         go_wp2_with fail
         have q := HQ.out
         exact bodyPost_ret (v := .tuple #[.agg (sc (.slice p2 n2 c2) g2 en2 at_ er), .int .i64 k2]) (by simp [results, Tryz.results33, asAddr, Result.andThen, q]) rfl (SOut.er HRE.out rfl (HB.out ▸ HB8.out))
        | ok v =>
         obtain ⟨p2, c2, rfl, hr2, hB2⟩ := hso
         have hv := HGO.out.2 v rfl
         have hLl := HLq.out.below hB2
         have S0 := hLl.s.storeCells (v' := .slice p2 v.l.length c2) rfl v.g v.en 0 0
         have HLv := Lib.hid (hLl.put v p2 c2 hr2)
         have hv1 := hv.p
         have hv2 := hv.e
         have hv3 := hv.l
         have hv4 := hv.l1
         have hv5 := hv.g
         have hv6 := hv.g9
         clear HGO HLq hB2 hLl hr2 hv
         go_upto_region 14 with fail
         generalize wl.setRow b _ = wv at *
         clear S0
         have c13 : wv.cell? ⟨b, 13, none⟩ = some (.int .i64 0) := HLv.out.s.cell 13
         have hti := fun w h => timesU_c s hs1 v hv2 (by omega) (by omega) p2 c2 w h
         have hbe := behU_goes (s := s) (r := v) hv2
         obtain ⟨Y, hY⟩ : ∃ Y, Y = behU s v := ⟨_, rfl⟩
         have hR5 : R = rowEnd (behEnd s (rowU s f) fu ts (behU s v)) := HR4.out.trans rfl
         rw [← hY] at hR5
         rw [← hY] at hti hbe
         have HTI := Lib.hid hti
         have HBE := Lib.hid hbe
         have HR5 := Lib.hid hR5
         clear hti hbe hR5 hY HR4
         go_upto_region 15 with fail
         refine wp_region_lit ?_
         refine wpl_move rfl rfl ?_
         refine wpl_move rfl rfl ?_
         refine wpl_load_st HLv.out.s rfl rfl rfl ?_
         try simp only [Act.put, laS]
         go_wp2_with fail
         refine (HTI.out _ HLv.out.x).mono ?_
         rintro e wl hso
         clear HTI c13
         cases Y with
         | error z =>
          obtain ⟨er, at_⟩ := z
          obtain ⟨p3, n3, c3, g3, en3, k3, rfl, hB3⟩ := hso
          have hne : er ≠ 0 := HBE.out.1 (er, at_) rfl
          have HRE : Hid (R = .error (er, at_)) := HR5
          have hLl := HLv.out.below hB3
          clear HBE HR5 HLv hB3
          have S0 := hLl.s.storeCells (v' := .slice p3 n3 c3) rfl g3 en3 at_ er
          have hbad := hLl.bad (.slice p3 n3 c3) g3 en3 at_ er
          go_upto_region 16 with fail
          generalize wl.setRow b _ = wq at *
          obtain ⟨hS9, hZ9, hB9⟩ := hbad
          have ce : wq.cell? ⟨b, 13, none⟩ = some (.int .i64 er) := hS9.cell 13
          have HS9 := Lib.hid hS9
          have HZ9 := Lib.hid hZ9
          have HB9 := Lib.hid hB9
          have hnz : ((er : Int) != 0) = true := by rw [bne_iff_ne]; exact hne
          have hnz2 : ((er : Int) == 0) = false := by rw [beq_eq_false_iff_ne]; exact hne
          clear S0 hS9 hZ9 hB9
          go_upto_region 17 with fail
          refine wp_region_lit ?_
          refine wpl_load_st HS9.out rfl rfl rfl ?_
          try simp only [Act.put, laS]
          have S1 := HZ9.out.storeCells (v' := .slice p3 n3 c3) rfl g3 en3 at_ er
          have q := (HZ9.out.put (.slice p3 n3 c3) g3 en3 at_ er).load
          have HQ := Lib.hid q
          have HB8 := Lib.hid (Below.setRow HB9.out (show b ≤ b + 1 by omega) (sc (.slice p3 n3 c3) g3 en3 at_ er))
          clear q HS9 HZ9 HB9 ce
          go_wp2_with fail
          have q := HQ.out
          exact bodyPost_ret (v := .tuple #[.agg (sc (.slice p3 n3 c3) g3 en3 at_ er), .int .i64 k3]) (by simp [results, Tryz.results33, asAddr, Result.andThen, q]) rfl (SOut.er HRE.out rfl (HB.out ▸ HB8.out))
         | ok q2 =>
          obtain ⟨p3, c3, rfl, hr3, hB3⟩ := hso
          have HV := Lib.hid (HBE.out.2 q2 rfl)
          have hLl := HLv.out.below hB3
          have S0 := hLl.s.storeCells (v' := .slice p3 q2.l.length c3) rfl q2.g q2.en 0 0
          have HL := Lib.hid (hLl.put q2 p3 c3 hr3)
          have HRE : Hid (R = rowEnd (itemsU s (rowU s f) fu q2 false (ts ++ [(q2.l.length : Int) - 1]))) := HR5
          clear HBE HLv hB3 hLl hr3 HR5
          go_upto_region 16 with fail
          generalize wl.setRow b _ = wq at *
          clear S0
          have c13 : wq.cell? ⟨b, 13, none⟩ = some (.int .i64 0) := HL.out.s.cell 13
          go_upto_region 18 with fail
          have hq2l : q2.l.length ≤ v.l.length + 1 := HV.out.2.2.2.1
          have cl0 : wq.cell? ⟨b, 0, none⟩ = some (.slice p3 (q2.l.length) c3) := HL.out.s.cell 0
          have ewl : IntKind.i64.wrap (((q2.l.length : Nat) : Int) - 1) = ((q2.l.length : Nat) : Int) - 1 := by simp [IntKind.wrap, IntKind.signed, IntKind.bits]; omega
          have hA := HL.out.below ((Below.refl _ wq).alloc (Nat.le_refl _) (.cells #[.int .i64 (((q2.l.length : Nat) : Int) - 1)] 3))
          have hbq : b ≤ wq.heap.size := by have := HL.out.s.lt; omega
          have htl : (ts).length ≤ 1000000 := by first | omega | (simp only [List.length_nil]; omega)
          have HA := Lib.hid hA
          clear hA HL
          go_wp2_with (at_builtin; refine wpl_snoc_int rfl rfl rfl HA.out.t (heap_new _ _) rfl htl (by omega) ?_)
          intro tv9 wt ht9 hg9
          have HT := Lib.hid (HA.out.push hg9 ht9)
          clear HA cl0 ht9 hg9 htl
          go_wp2_with fail
          have hv := HV.out
          go_roundg (s.length - q2.p)
          case measure => omega
          case rel => exact ⟨q2, p3, c3, ts ++ [(q2.l.length : Int) - 1], false, fu, rfl, rfl, rfl, HT.out, HRE, hv.2.1, by omega, by omega, by omega, by rw [List.length_append, List.length_singleton]; omega⟩
   case rest =>
    obtain ⟨q, pq, cq, ts, rfl, hL, hRq, hqp, hql⟩ := hcut
    have hrev : ts.reverse.tail = (ts.take (ts.length - 1)).reverse := by rw [← List.dropLast_eq_take, List.tail_reverse]
    rw [hrev] at hRq
    obtain ⟨tp, tc, rfl⟩ := own_shape hL.t
    have HLq := Lib.hid hL
    have ewm : IntKind.i64.wrap ((ts.length : Int) - 2) = (ts.length : Int) - 2 := by simp [IntKind.wrap, IntKind.signed, IntKind.bits]; omega
    clear hL hrev HL1 hR1 HC
    go_wp2_with fail
    go_loopg [10] (ts.length - 1) (fun gm iv wx => ∃ (z : Int) (j : Nat) (r2 : BRd) (p2 : Option Addr) (c2 : Nat), gm = j ∧ iv = .int .i64 z ∧ (z = (j : Int) - 1 ∨ (j = 0 ∧ z < 0)) ∧ j ≤ ts.length ∧ -2 ≤ z ∧ LS w wx b r2 p2 c2 (.slice tp ts.length tc) ts ∧ Hid (R = .ok (catsU (ts.take j).reverse r2)) ∧ r2.p = q.p ∧ r2.l.length + j ≤ 3 * q.p)
    case atStart => exact ⟨(ts.length : Int) - 2, ts.length - 1, q, pq, cq, rfl, rfl, by omega, by omega, by omega, HLq.out, hRq, rfl, by omega⟩
    case round =>
     obtain ⟨z, j, r2, p2, c2, hgm, rfl, hz, hj, hz2, hL, hRz, hpq, hlz⟩ := hrel
     have hgm := hgm.symm
     subst hgm
     have HLz := Lib.hid hL
     clear hL HLq hRq
     by_cases h0 : 0 ≤ z
     ·obtain ⟨k, rfl⟩ : ∃ k, j = k + 1 := ⟨j - 1, by omega⟩
      obtain rfl : z = (k : Int) := by omega
      have g0 : ((0 : Int) ≤ (k : Int)) = True := by simp
      have hkl : k < ts.length := by omega
      obtain ⟨y, hy⟩ : ∃ y, ts[k]? = some y := ⟨_, List.getElem?_eq_getElem hkl⟩
      have htk : (ts.take (k + 1)).reverse = y :: (ts.take k).reverse := by
       obtain ⟨h1, h2⟩ := List.getElem?_eq_some_iff.1 hy
       rw [List.take_succ_eq_append_getElem h1, h2, List.reverse_append]; rfl
      have HRE : Hid (R = .ok (catsU (ts.take k).reverse (r2.pu ⟨4, 0, 0, 0, 0, y, (r2.l.length : Int) - 1, 0, 0, 0⟩))) := Lib.hid (by rw [hRz.out, htk, catsU])
      obtain ⟨tg, rfl⟩ : ∃ g, tp = some ⟨g, 0, none⟩ := by
       rcases HLz.out.t.2 with ⟨h1, h2⟩ | ⟨g, cap, cur, h1, _⟩
       ·omega
       ·cases h1; exact ⟨g, rfl⟩
      have ct : wr.cell? ⟨tg, k, none⟩ = some (.int .i64 y) := by
       have := World.ownsRow.cells HLz.out.t (g := tg) rfl k (.int .i64 y) (by rw [List.getElem?_map, hy]; rfl)
       rwa [Addr.add_lit, Nat.zero_add] at this
      have c0 : wr.cell? ⟨b, 0, none⟩ = some (.slice p2 r2.l.length c2) := HLz.out.s.cell 0
      have gk : ((k : Int) < ts.length) = True := by simp; omega
      have ewl : IntKind.i64.wrap ((r2.l.length : Int) - 1) = (r2.l.length : Int) - 1 := by simp [IntKind.wrap, IntKind.signed, IntKind.bits]; omega
      have ewk : IntKind.i64.wrap ((k : Int) - 1) = (k : Int) - 1 := by simp [IntKind.wrap, IntKind.signed, IntKind.bits]; omega
      have hlf := fun w (h : RRow w 0 (.slice p2 r2.l.length c2) r2.l.length r2.l) => leafU_c p2 r2.l.length c2 r2.g r2.en 0 0 ⟨4, 0, 0, 0, 0, y, (r2.l.length : Int) - 1, 0, 0, 0⟩ r2.l (by omega) w h
      unfold Nd.cells at hlf
      dsimp only at hlf
      have HLF := Lib.hid hlf
      clear hlf hy htk hz hRz
      go_upto_region 22 with fail
      refine wp_region_noPanic ?_
      refine wp_region_held_drew (S := fun _ => True) (by kernel_rfl) trivial (fun _ => ?_)
      have HD := Lib.hid (HLz.out.below (Below.refl wr.heap.size wr).drew)
      have ct : wr.drew.cell? ⟨tg, k, none⟩ = some (.int .i64 y) := ct
      have c0 : wr.drew.cell? ⟨b, 0, none⟩ = some (.slice p2 r2.l.length c2) := c0
      clear HLz
      generalize wr.drew = wd at *
      refine wpAnyH_take (i := 1) (v := ?_) rfl (by kernel_rfl) (by kernel_rfl) (by kernel_rfl) (fun _ _ _ h => h) (Or.inl ⟨by kernel_rfl, ?_⟩) (by trivial) ?_
      rotate_left
      ·(intro w hSw; (try dsimp only at hSw); go_simp); (try with_reducible rfl)
      try simp only [Act.put, laS]
      refine wpAnyH_take (i := 2) (v := ?_) rfl (by kernel_rfl) (by kernel_rfl) (by kernel_rfl) (fun _ _ _ h => h) (Or.inl ⟨by kernel_rfl, ?_⟩) (by trivial) ?_
      rotate_left
      ·(intro w hSw; (try dsimp only at hSw); go_simp); (try with_reducible rfl)
      try simp only [Act.put, laS]
      refine wpAnyH_take (i := 3) (v := ?_) rfl (by kernel_rfl) (by kernel_rfl) (by kernel_rfl) (fun _ _ _ h => h) (Or.inl ⟨by kernel_rfl, ?_⟩) (by trivial) ?_
      rotate_left
      ·(intro w hSw; (try dsimp only at hSw); go_simp); (try with_reducible rfl)
      try simp only [Act.put, laS]
      refine wpAnyH_take (i := 5) (v := ?_) rfl (by kernel_rfl) (by kernel_rfl) (by kernel_rfl) (fun _ _ _ h => h) (Or.inl ⟨by kernel_rfl, ?_⟩) (by trivial) ?_
      rotate_left
      ·(intro w hSw; (try dsimp only at hSw); go_simp); (try with_reducible rfl)
      try simp only [Act.put, laS]
      refine wpAnyH_ready (rs := [0, 4, 6]) (by kernel_rfl) (by simp) ?_
      refine AllReadyH.cons rfl (fun K hK => ?_) (AllReadyH.cons rfl (fun K hK => ?_) (AllReadyH.cons rfl (fun K hK => ?_) (AllReadyH.nil)))
      ·refine wp_load_st HD.out.s rfl rfl ?_
       refine hK.out _ _ trivial (fun _ => ?_)
       clear hK K
       try simp only [Act.put, laS]
       refine wpAnyH_ready (rs := [4, 6]) (by kernel_rfl) (by simp) ?_
       refine AllReadyH.cons rfl (fun K hK => ?_) (AllReadyH.cons rfl (fun K hK => ?_) (AllReadyH.nil))
       ·go_simp
        refine hK.out _ _ trivial (fun _ => ?_)
        clear hK K
        try simp only [Act.put, laS]
        refine wpAnyH_ready (rs := [6]) (by kernel_rfl) (by simp) ?_
        refine AllReadyH.cons rfl (fun K hK => ?_) (AllReadyH.nil)
        ·go_simp
         refine hK.out _ _ trivial (fun _ => ?_)
         clear hK K
         try simp only [Act.put, laS]
         refine wpAnyH_take (i := 7) (v := ?_) rfl (by kernel_rfl) (by kernel_rfl) (by kernel_rfl) (fun _ _ _ h => h) (Or.inl ⟨by kernel_rfl, ?_⟩) (by trivial) ?_
         rotate_left
         ·(intro w hSw; (try dsimp only at hSw); go_simp); (try with_reducible rfl)
         try simp only [Act.put, laS]
         refine wpAnyH_take (i := 8) (v := ?_) rfl (by kernel_rfl) (by kernel_rfl) (by kernel_rfl) (fun _ _ _ h => h) (Or.inl ⟨by kernel_rfl, ?_⟩) (by trivial) ?_
         rotate_left
         ·(intro w hSw; (try dsimp only at hSw); go_simp); (try with_reducible rfl)
         try simp only [Act.put, laS]
         refine wpAnyH_take (i := 9) (v := ?_) rfl (by kernel_rfl) (by kernel_rfl) (by kernel_rfl) (fun _ _ _ h => h) (Or.inl ⟨by kernel_rfl, ?_⟩) (by trivial) ?_
         rotate_left
         ·(intro w hSw; (try dsimp only at hSw); go_simp); (try with_reducible rfl)
         try simp only [Act.put, laS]
         refine wpAnyH_ready (rs := [10]) (by kernel_rfl) (by simp) ?_
         refine AllReadyH.cons rfl (fun K hK => ?_) AllReadyH.nil
         go_simp
         refine (HLF.out _ HD.out.x).mono ?_
         rintro e wl ⟨p9, c9, rfl, hr9, hBl⟩
         have hLl := HD.out.below hBl
         have HN := Lib.hid (hLl.leaf ⟨4, 0, 0, 0, 0, y, (r2.l.length : Int) - 1, 0, 0, 0⟩ hr9)
         refine hK.out _ _ trivial (fun _ => ?_)
         clear hK K
         try simp only [Act.put, laS]
         refine wpAnyH_ready (rs := [11]) (by kernel_rfl) (by simp) ?_
         refine AllReadyH.cons rfl (fun K hK => ?_) AllReadyH.nil
         refine wp_store_st hLl.s (v' := .slice p9 (r2.l.length + 1) c9) rfl rfl rfl rfl ?_
         refine hK.out _ _ trivial (fun _ => ?_)
         clear hK K hLl hr9 hBl HLF HD ct c0
         try simp only [Act.put, laS]
         refine wpAnyH_done (by kernel_rfl) ?_ _
         refine NoPanic.normal ?_
         generalize wl.setRow b (sc (.slice p9 (r2.l.length + 1) c9) r2.g r2.en 0 0) = wq at *
         go_wp2
         go_roundg k
         case measure => omega
         case rel => exact ⟨(k : Int) - 1, k, _, p9, c9, rfl, rfl, .inl rfl, by omega, by omega, HN.out, HRE, hpq, by rw [pu_len]; omega⟩
       ·go_simp
        refine hK.out _ _ trivial (fun _ => ?_)
        clear hK K
        try simp only [Act.put, laS]
        refine wpAnyH_take (i := 7) (v := ?_) rfl (by kernel_rfl) (by kernel_rfl) (by kernel_rfl) (fun _ _ _ h => h) (Or.inl ⟨by kernel_rfl, ?_⟩) (by trivial) ?_
        rotate_left
        ·(intro w hSw; (try dsimp only at hSw); go_simp); (try with_reducible rfl)
        try simp only [Act.put, laS]
        refine wpAnyH_take (i := 8) (v := ?_) rfl (by kernel_rfl) (by kernel_rfl) (by kernel_rfl) (fun _ _ _ h => h) (Or.inl ⟨by kernel_rfl, ?_⟩) (by trivial) ?_
        rotate_left
        ·(intro w hSw; (try dsimp only at hSw); go_simp); (try with_reducible rfl)
        try simp only [Act.put, laS]
        refine wpAnyH_ready (rs := [4]) (by kernel_rfl) (by simp) ?_
        refine AllReadyH.cons rfl (fun K hK => ?_) (AllReadyH.nil)
        ·go_simp
         refine hK.out _ _ trivial (fun _ => ?_)
         clear hK K
         try simp only [Act.put, laS]
         refine wpAnyH_take (i := 9) (v := ?_) rfl (by kernel_rfl) (by kernel_rfl) (by kernel_rfl) (fun _ _ _ h => h) (Or.inl ⟨by kernel_rfl, ?_⟩) (by trivial) ?_
         rotate_left
         ·(intro w hSw; (try dsimp only at hSw); go_simp); (try with_reducible rfl)
         try simp only [Act.put, laS]
         refine wpAnyH_ready (rs := [10]) (by kernel_rfl) (by simp) ?_
         refine AllReadyH.cons rfl (fun K hK => ?_) AllReadyH.nil
         go_simp
         refine (HLF.out _ HD.out.x).mono ?_
         rintro e wl ⟨p9, c9, rfl, hr9, hBl⟩
         have hLl := HD.out.below hBl
         have HN := Lib.hid (hLl.leaf ⟨4, 0, 0, 0, 0, y, (r2.l.length : Int) - 1, 0, 0, 0⟩ hr9)
         refine hK.out _ _ trivial (fun _ => ?_)
         clear hK K
         try simp only [Act.put, laS]
         refine wpAnyH_ready (rs := [11]) (by kernel_rfl) (by simp) ?_
         refine AllReadyH.cons rfl (fun K hK => ?_) AllReadyH.nil
         refine wp_store_st hLl.s (v' := .slice p9 (r2.l.length + 1) c9) rfl rfl rfl rfl ?_
         refine hK.out _ _ trivial (fun _ => ?_)
         clear hK K hLl hr9 hBl HLF HD ct c0
         try simp only [Act.put, laS]
         refine wpAnyH_done (by kernel_rfl) ?_ _
         refine NoPanic.normal ?_
         generalize wl.setRow b (sc (.slice p9 (r2.l.length + 1) c9) r2.g r2.en 0 0) = wq at *
         go_wp2
         go_roundg k
         case measure => omega
         case rel => exact ⟨(k : Int) - 1, k, _, p9, c9, rfl, rfl, .inl rfl, by omega, by omega, HN.out, HRE, hpq, by rw [pu_len]; omega⟩
      ·go_simp
       refine hK.out _ _ trivial (fun _ => ?_)
       clear hK K
       try simp only [Act.put, laS]
       refine wpAnyH_ready (rs := [0, 6]) (by kernel_rfl) (by simp) ?_
       refine AllReadyH.cons rfl (fun K hK => ?_) (AllReadyH.cons rfl (fun K hK => ?_) (AllReadyH.nil))
       ·refine wp_load_st HD.out.s rfl rfl ?_
        refine hK.out _ _ trivial (fun _ => ?_)
        clear hK K
        try simp only [Act.put, laS]
        refine wpAnyH_ready (rs := [6]) (by kernel_rfl) (by simp) ?_
        refine AllReadyH.cons rfl (fun K hK => ?_) (AllReadyH.nil)
        ·go_simp
         refine hK.out _ _ trivial (fun _ => ?_)
         clear hK K
         try simp only [Act.put, laS]
         refine wpAnyH_take (i := 7) (v := ?_) rfl (by kernel_rfl) (by kernel_rfl) (by kernel_rfl) (fun _ _ _ h => h) (Or.inl ⟨by kernel_rfl, ?_⟩) (by trivial) ?_
         rotate_left
         ·(intro w hSw; (try dsimp only at hSw); go_simp); (try with_reducible rfl)
         try simp only [Act.put, laS]
         refine wpAnyH_take (i := 8) (v := ?_) rfl (by kernel_rfl) (by kernel_rfl) (by kernel_rfl) (fun _ _ _ h => h) (Or.inl ⟨by kernel_rfl, ?_⟩) (by trivial) ?_
         rotate_left
         ·(intro w hSw; (try dsimp only at hSw); go_simp); (try with_reducible rfl)
         try simp only [Act.put, laS]
         refine wpAnyH_take (i := 9) (v := ?_) rfl (by kernel_rfl) (by kernel_rfl) (by kernel_rfl) (fun _ _ _ h => h) (Or.inl ⟨by kernel_rfl, ?_⟩) (by trivial) ?_
         rotate_left
         ·(intro w hSw; (try dsimp only at hSw); go_simp); (try with_reducible rfl)
         try simp only [Act.put, laS]
         refine wpAnyH_ready (rs := [10]) (by kernel_rfl) (by simp) ?_
         refine AllReadyH.cons rfl (fun K hK => ?_) AllReadyH.nil
         go_simp
         refine (HLF.out _ HD.out.x).mono ?_
         rintro e wl ⟨p9, c9, rfl, hr9, hBl⟩
         have hLl := HD.out.below hBl
         have HN := Lib.hid (hLl.leaf ⟨4, 0, 0, 0, 0, y, (r2.l.length : Int) - 1, 0, 0, 0⟩ hr9)
         refine hK.out _ _ trivial (fun _ => ?_)
         clear hK K
         try simp only [Act.put, laS]
         refine wpAnyH_ready (rs := [11]) (by kernel_rfl) (by simp) ?_
         refine AllReadyH.cons rfl (fun K hK => ?_) AllReadyH.nil
         refine wp_store_st hLl.s (v' := .slice p9 (r2.l.length + 1) c9) rfl rfl rfl rfl ?_
         refine hK.out _ _ trivial (fun _ => ?_)
         clear hK K hLl hr9 hBl HLF HD ct c0
         try simp only [Act.put, laS]
         refine wpAnyH_done (by kernel_rfl) ?_ _
         refine NoPanic.normal ?_
         generalize wl.setRow b (sc (.slice p9 (r2.l.length + 1) c9) r2.g r2.en 0 0) = wq at *
         go_wp2
         go_roundg k
         case measure => omega
         case rel => exact ⟨(k : Int) - 1, k, _, p9, c9, rfl, rfl, .inl rfl, by omega, by omega, HN.out, HRE, hpq, by rw [pu_len]; omega⟩
       ·go_simp
        refine hK.out _ _ trivial (fun _ => ?_)
        clear hK K
        try simp only [Act.put, laS]
        refine wpAnyH_take (i := 7) (v := ?_) rfl (by kernel_rfl) (by kernel_rfl) (by kernel_rfl) (fun _ _ _ h => h) (Or.inl ⟨by kernel_rfl, ?_⟩) (by trivial) ?_
        rotate_left
        ·(intro w hSw; (try dsimp only at hSw); go_simp); (try with_reducible rfl)
        try simp only [Act.put, laS]
        refine wpAnyH_take (i := 8) (v := ?_) rfl (by kernel_rfl) (by kernel_rfl) (by kernel_rfl) (fun _ _ _ h => h) (Or.inl ⟨by kernel_rfl, ?_⟩) (by trivial) ?_
        rotate_left
        ·(intro w hSw; (try dsimp only at hSw); go_simp); (try with_reducible rfl)
        try simp only [Act.put, laS]
        refine wpAnyH_take (i := 9) (v := ?_) rfl (by kernel_rfl) (by kernel_rfl) (by kernel_rfl) (fun _ _ _ h => h) (Or.inl ⟨by kernel_rfl, ?_⟩) (by trivial) ?_
        rotate_left
        ·(intro w hSw; (try dsimp only at hSw); go_simp); (try with_reducible rfl)
        try simp only [Act.put, laS]
        refine wpAnyH_ready (rs := [0]) (by kernel_rfl) (by simp) ?_
        refine AllReadyH.cons rfl (fun K hK => ?_) (AllReadyH.nil)
        ·refine wp_load_st HD.out.s rfl rfl ?_
         refine hK.out _ _ trivial (fun _ => ?_)
         clear hK K
         try simp only [Act.put, laS]
         refine wpAnyH_ready (rs := [10]) (by kernel_rfl) (by simp) ?_
         refine AllReadyH.cons rfl (fun K hK => ?_) AllReadyH.nil
         go_simp
         refine (HLF.out _ HD.out.x).mono ?_
         rintro e wl ⟨p9, c9, rfl, hr9, hBl⟩
         have hLl := HD.out.below hBl
         have HN := Lib.hid (hLl.leaf ⟨4, 0, 0, 0, 0, y, (r2.l.length : Int) - 1, 0, 0, 0⟩ hr9)
         refine hK.out _ _ trivial (fun _ => ?_)
         clear hK K
         try simp only [Act.put, laS]
         refine wpAnyH_ready (rs := [11]) (by kernel_rfl) (by simp) ?_
         refine AllReadyH.cons rfl (fun K hK => ?_) AllReadyH.nil
         refine wp_store_st hLl.s (v' := .slice p9 (r2.l.length + 1) c9) rfl rfl rfl rfl ?_
         refine hK.out _ _ trivial (fun _ => ?_)
         clear hK K hLl hr9 hBl HLF HD ct c0
         try simp only [Act.put, laS]
         refine wpAnyH_done (by kernel_rfl) ?_ _
         refine NoPanic.normal ?_
         generalize wl.setRow b (sc (.slice p9 (r2.l.length + 1) c9) r2.g r2.en 0 0) = wq at *
         go_wp2
         go_roundg k
         case measure => omega
         case rel => exact ⟨(k : Int) - 1, k, _, p9, c9, rfl, rfl, .inl rfl, by omega, by omega, HN.out, HRE, hpq, by rw [pu_len]; omega⟩
      ·go_simp
       refine hK.out _ _ trivial (fun _ => ?_)
       clear hK K
       try simp only [Act.put, laS]
       refine wpAnyH_take (i := 7) (v := ?_) rfl (by kernel_rfl) (by kernel_rfl) (by kernel_rfl) (fun _ _ _ h => h) (Or.inl ⟨by kernel_rfl, ?_⟩) (by trivial) ?_
       rotate_left
       ·(intro w hSw; (try dsimp only at hSw); go_simp); (try with_reducible rfl)
       try simp only [Act.put, laS]
       refine wpAnyH_take (i := 8) (v := ?_) rfl (by kernel_rfl) (by kernel_rfl) (by kernel_rfl) (fun _ _ _ h => h) (Or.inl ⟨by kernel_rfl, ?_⟩) (by trivial) ?_
       rotate_left
       ·(intro w hSw; (try dsimp only at hSw); go_simp); (try with_reducible rfl)
       try simp only [Act.put, laS]
       refine wpAnyH_ready (rs := [0, 4]) (by kernel_rfl) (by simp) ?_
       refine AllReadyH.cons rfl (fun K hK => ?_) (AllReadyH.cons rfl (fun K hK => ?_) (AllReadyH.nil))
       ·refine wp_load_st HD.out.s rfl rfl ?_
        refine hK.out _ _ trivial (fun _ => ?_)
        clear hK K
        try simp only [Act.put, laS]
        refine wpAnyH_ready (rs := [4]) (by kernel_rfl) (by simp) ?_
        refine AllReadyH.cons rfl (fun K hK => ?_) (AllReadyH.nil)
        ·go_simp
         refine hK.out _ _ trivial (fun _ => ?_)
         clear hK K
         try simp only [Act.put, laS]
         refine wpAnyH_take (i := 9) (v := ?_) rfl (by kernel_rfl) (by kernel_rfl) (by kernel_rfl) (fun _ _ _ h => h) (Or.inl ⟨by kernel_rfl, ?_⟩) (by trivial) ?_
         rotate_left
         ·(intro w hSw; (try dsimp only at hSw); go_simp); (try with_reducible rfl)
         try simp only [Act.put, laS]
         refine wpAnyH_ready (rs := [10]) (by kernel_rfl) (by simp) ?_
         refine AllReadyH.cons rfl (fun K hK => ?_) AllReadyH.nil
         go_simp
         refine (HLF.out _ HD.out.x).mono ?_
         rintro e wl ⟨p9, c9, rfl, hr9, hBl⟩
         have hLl := HD.out.below hBl
         have HN := Lib.hid (hLl.leaf ⟨4, 0, 0, 0, 0, y, (r2.l.length : Int) - 1, 0, 0, 0⟩ hr9)
         refine hK.out _ _ trivial (fun _ => ?_)
         clear hK K
         try simp only [Act.put, laS]
         refine wpAnyH_ready (rs := [11]) (by kernel_rfl) (by simp) ?_
         refine AllReadyH.cons rfl (fun K hK => ?_) AllReadyH.nil
         refine wp_store_st hLl.s (v' := .slice p9 (r2.l.length + 1) c9) rfl rfl rfl rfl ?_
         refine hK.out _ _ trivial (fun _ => ?_)
         clear hK K hLl hr9 hBl HLF HD ct c0
         try simp only [Act.put, laS]
         refine wpAnyH_done (by kernel_rfl) ?_ _
         refine NoPanic.normal ?_
         generalize wl.setRow b (sc (.slice p9 (r2.l.length + 1) c9) r2.g r2.en 0 0) = wq at *
         go_wp2
         go_roundg k
         case measure => omega
         case rel => exact ⟨(k : Int) - 1, k, _, p9, c9, rfl, rfl, .inl rfl, by omega, by omega, HN.out, HRE, hpq, by rw [pu_len]; omega⟩
       ·go_simp
        refine hK.out _ _ trivial (fun _ => ?_)
        clear hK K
        try simp only [Act.put, laS]
        refine wpAnyH_take (i := 9) (v := ?_) rfl (by kernel_rfl) (by kernel_rfl) (by kernel_rfl) (fun _ _ _ h => h) (Or.inl ⟨by kernel_rfl, ?_⟩) (by trivial) ?_
        rotate_left
        ·(intro w hSw; (try dsimp only at hSw); go_simp); (try with_reducible rfl)
        try simp only [Act.put, laS]
        refine wpAnyH_ready (rs := [0]) (by kernel_rfl) (by simp) ?_
        refine AllReadyH.cons rfl (fun K hK => ?_) (AllReadyH.nil)
        ·refine wp_load_st HD.out.s rfl rfl ?_
         refine hK.out _ _ trivial (fun _ => ?_)
         clear hK K
         try simp only [Act.put, laS]
         refine wpAnyH_ready (rs := [10]) (by kernel_rfl) (by simp) ?_
         refine AllReadyH.cons rfl (fun K hK => ?_) AllReadyH.nil
         go_simp
         refine (HLF.out _ HD.out.x).mono ?_
         rintro e wl ⟨p9, c9, rfl, hr9, hBl⟩
         have hLl := HD.out.below hBl
         have HN := Lib.hid (hLl.leaf ⟨4, 0, 0, 0, 0, y, (r2.l.length : Int) - 1, 0, 0, 0⟩ hr9)
         refine hK.out _ _ trivial (fun _ => ?_)
         clear hK K
         try simp only [Act.put, laS]
         refine wpAnyH_ready (rs := [11]) (by kernel_rfl) (by simp) ?_
         refine AllReadyH.cons rfl (fun K hK => ?_) AllReadyH.nil
         refine wp_store_st hLl.s (v' := .slice p9 (r2.l.length + 1) c9) rfl rfl rfl rfl ?_
         refine hK.out _ _ trivial (fun _ => ?_)
         clear hK K hLl hr9 hBl HLF HD ct c0
         try simp only [Act.put, laS]
         refine wpAnyH_done (by kernel_rfl) ?_ _
         refine NoPanic.normal ?_
         generalize wl.setRow b (sc (.slice p9 (r2.l.length + 1) c9) r2.g r2.en 0 0) = wq at *
         go_wp2
         go_roundg k
         case measure => omega
         case rel => exact ⟨(k : Int) - 1, k, _, p9, c9, rfl, rfl, .inl rfl, by omega, by omega, HN.out, HRE, hpq, by rw [pu_len]; omega⟩
     ·obtain rfl : j = 0 := by omega
      have g0 : ((0 : Int) ≤ z) = False := by simp; omega
      have HRE : Hid (R = .ok r2) := Lib.hid (by rw [hRz.out]; rfl)
      clear hRz
      go_upto_region 23 with fail
      refine wp_region_lit ?_
      refine wpl_load_st HLz.out.s rfl rfl rfl ?_
      try simp only [Act.put, laS]
      have S0 := HLz.out.z.storeCells (v' := .slice p2 r2.l.length c2) rfl r2.g r2.en 0 0
      have q0 := (HLz.out.z.put (.slice p2 r2.l.length c2) r2.g r2.en 0 0).load
      have HQ := Lib.hid q0
      have HB8 := Lib.hid (Below.setRow HLz.out.B (show b ≤ b + 1 by omega) (sc (.slice p2 r2.l.length c2) r2.g r2.en 0 0))
      have HX8 := Lib.hid (own_setRow (show wr.ownsRow 0 _ _ _ _ _ from HLz.out.x) (own_neT (show wr.ownsRow 0 _ _ _ _ _ from HLz.out.x) HLz.out.z.heap (by decide)) (sc (.slice p2 r2.l.length c2) r2.g r2.en 0 0))
      clear q0 HLz
      go_wp2_with fail
      have q0 := HQ.out
      exact bodyPost_ret (v := .tuple #[.agg (sc (.slice p2 r2.l.length c2) r2.g r2.en 0 0), .int .i64 (q.p : Int)]) (by simp [results, Tryz.results33, asAddr, Result.andThen, q0]) rfl (SOut.ok HRE.out rfl (by rw [hpq]) rfl rfl HX8.out (HB.out ▸ HB8.out))
theorem rowUU_c (s : List UInt8) (hs : s.length ≤ 100000) : ∀ f, RowCU s f
 | 0 => fun r p c w h1 h2 _ _ _ => absurd h1 (by omega)
 | f + 1 => row_step s hs f (rowUU_c s hs f)
end Go.Proofs.YtkcbknfhckomcaaGreatDoor
