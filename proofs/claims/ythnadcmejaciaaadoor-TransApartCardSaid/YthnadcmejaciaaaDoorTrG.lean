/- The reference's Make. -/
import Derived.Test.YthnadcmejaciaaaDoorTrF
namespace Go.Proofs.YthnadcmejaciaaaDoor
open Go.RowKit
set_option linter.unusedVariables false
set_option linter.unusedSimpArgs false

theorem dup_false {fr : List UInt8} {i : Nat} (hi : i < fr.length) (h : ∀ j (hj : j < i), fr[j]'(by omega) ≠ fr[i]) : dup fr i = false := by
  rw [← Bool.not_eq_true, dup, List.contains_iff_mem]
  intro hm
  obtain ⟨j, hj, e⟩ := List.getElem_of_mem hm
  have hji : j < i := by simp at hj; omega
  apply h j hji
  rw [List.getElem_take] at e
  rw [e]
  simp [List.getD, List.getElem?_eq_getElem hi]
theorem dup_true {fr : List UInt8} {i j : Nat} (hi : i < fr.length) (hj : j < i) (h : fr[j]'(by omega) = fr[i]) : dup fr i = true := by
  rw [dup, List.contains_iff_mem]
  have : (fr.take i)[j]? = some fr[i] := by rw [List.getElem?_take, if_pos hj, List.getElem?_eq_getElem (by omega), h]
  have e : fr.getD i 0 = fr[i] := by simp [List.getD, List.getElem?_eq_getElem hi]
  rw [e]
  exact List.mem_of_getElem? this

theorem GR.drewN {T : TypeId} {W : World} {b : Nat} {g : Nat → Value} (h : GR T W b g) (n : Nat) : GR T (W.drewN n) b g := ⟨h.heap⟩
theorem GR.drew {T : TypeId} {W : World} {b : Nat} {g : Nat → Value} (h : GR T W b g) : GR T W.drew b g := ⟨h.heap⟩

set_option maxRecDepth 100000 in
set_option maxHeartbeats 8000000 in
theorem rmake_c (a b : ByteArray) (ha : a.size ≤ 100000) (hb : b.size ≤ 100000) (w : World) :
    Calls Tryd.prog 12 #[.string a, .string b] w fun e w' => e = .returned (mkV a.data.toList b.data.toList) ∧ Below w.heap.size w w' := by
  obtain ⟨hz, hsz⟩ := zero_of_info (P := Tryd.prog) infoR
  obtain ⟨fr, hfr⟩ : ∃ l, l = a.data.toList := ⟨_, rfl⟩
  obtain ⟨to, hto⟩ : ∃ l, l = b.data.toList := ⟨_, rfl⟩
  rw [← hfr, ← hto]
  have hfl : fr.length = a.size := by rw [hfr]; simp
  have htl : to.length = b.size := by rw [hto]; simp
  have HFR := Lib.hid hfr
  have HTO := Lib.hid hto
  have HFL := Lib.hid hfl
  have HTL := Lib.hid htl
  have g0 := GR.new 28 w u8z
  have HS := Lib.hid (fun w => rsame_c w)
  by_cases hlen : a.size = b.size
  · have hne : ((a.size : Int) != b.size) = false := by simp [hlen]
    have hne2 : (a.size != b.size) = false := by simp [hlen]
    have HLEN := Lib.hid hlen
    clear hfr hto hfl htl hlen
    go_enter Tryd.func12, Tryd.ntmps12
    go_wp2_with fail
    refine (HS.out _).mono ?_
    rintro e w1 ⟨rfl, hB1⟩
    have g1 := g0.beside hB1
    have lB1 := hB1.size
    rw [World.size_alloc] at lB1
    have hst1 := store_new w1 rtR (mv same) u8z (one_mv same)
    have hBB : Below w.heap.size w (w1.alloc (.cells (garr (mv same)) 28)) :=
      (((Below.refl _ w).alloc (Nat.le_refl _) _).trans (hB1.mono (by rw [World.size_alloc]; omega))).alloc (by omega) _
    have HBB := Lib.hid hBB
    clear hB1 g0
    go_wp2
    clear hst1
    go_loopw [7] (fun i wr => ∃ k : Nat, k ≤ a.size ∧ i = .int .i64 k ∧ (∀ j, j < k → dup fr j = false) ∧ GR 28 wr w.heap.size u8z ∧ GR 28 wr w1.heap.size (mv (mkF fr to k)) ∧ Below w.heap.size w wr) (fun i _ => a.size - (intOf i).toNat)
    case atStart =>
      exact ⟨0, by omega, rfl, fun j hj => absurd hj (by omega), g1.alloc _, (GR.new _ w1 _), HBB.out⟩
    case round =>
      obtain ⟨k, hk, rfl, hd, q0, q1, hB⟩ := hrel
      have HD := Lib.hid hd
      clear hd
      by_cases hlt : k < a.size
      · have hkf : k < fr.length := by have := HFL.out; omega
        have hkt : k < to.length := by have := HTL.out; have := HLEN.out; omega
        have hltb : k < b.size := by have := HLEN.out; omega
        have e1 := ba_get a fr HFR.out.symm k hlt hkf
        have e2 := ba_get b to HTO.out.symm k hltb hkt
        have hcl := (a[k]).toNat_lt
        have E1 := Lib.hid e1
        have E2 := Lib.hid e2
        clear e1 e2
        go_wp2
        go_loopw [8] (fun i wr' => ∃ m : Nat, m ≤ k ∧ i = .int .i64 m ∧ (∀ j (hj : j < m), j < k → fr[j]? ≠ fr[k]?) ∧ GR 28 wr' w.heap.size u8z ∧ GR 28 wr' w1.heap.size (mv (mkF fr to k)) ∧ Below w.heap.size w wr') (fun i _ => k - (intOf i).toNat)
        case atStart => exact ⟨0, by omega, rfl, fun j hj => absurd hj (by omega), q0, q1, hB⟩
        case round =>
          obtain ⟨m, hm, rfl, hall, p0, p1, hB'⟩ := hrel
          have HALL := Lib.hid hall
          clear hall
          by_cases hmk : m < k
          · have hma : m < a.size := by omega
            have e3 := ba_get a fr HFR.out.symm m hma (by omega)
            have E3 := Lib.hid e3
            clear e3
            by_cases hq : a[k] = a[m]
            · have hqb : ((a[k].toNat : Int) == a[m].toNat) = true := by rw [hq]; simp
              have hno := mkOk_no (to := to) hkf (dup_true hkf hmk (by rw [← E1.out, ← E3.out, hq]))
              have HNO := Lib.hid hno
              have hst2 := fun n => (p0.drewN n).storeCells rtR u8z one_z
              clear hno hq
              go_wp2_with fail
              go_quiet (fail)
              go_wp2
              have q := (p0.drewN nq).put u8z
              have ql := q.load rtR
              refine bodyPost_ret (v := .tuple #[.agg (garr u8z), .int .i64 100]) ?_ rfl ⟨?_, Below.setRow (below_drewN hB' _) (Nat.le_refl _) _⟩
              · simp [results, Tryd.results12, asAddr, Result.andThen, ql]
              · unfold mkV; rw [HNO.out]; rfl
            · have hqb : ((a[k].toNat : Int) == a[m].toNat) = false := by
                rw [beq_eq_false_iff_ne]
                intro h; exact hq (UInt8.toNat_inj.1 (by omega))
              have HQ := Lib.hid hq
              clear hq
              go_wp2_with fail
              go_quiet (fail)
              go_wp2
              go_roundw
              case rel =>
                refine ⟨m + 1, by omega, by simp, ?_, by first | exact p0 | exact p0.below (below_drewN (Below.refl _ _) _) p0.lt, by first | exact p1 | exact p1.below (below_drewN (Below.refl _ _) _) p1.lt, by first | exact hB' | exact below_drewN hB' _⟩
                intro j hj hjk
                rcases (by omega : j < m ∨ j = m) with h | rfl
                · exact HALL.out j h hjk
                · rw [List.getElem?_eq_getElem (by omega), List.getElem?_eq_getElem hkf, ← E1.out, ← E3.out]
                  intro h; exact HQ.out (Option.some.inj h).symm
              case measure => simp [intOf]; omega
          · obtain rfl : m = k := by omega
            have hlt2 : ((m : Int) < m) = False := by simp
            have hdf : dup fr m = false := dup_false hkf (fun j hj h => HALL.out j hj hj (by rw [List.getElem?_eq_getElem (by omega), List.getElem?_eq_getElem hkf, h]))
            have HDF := Lib.hid hdf
            have f1 := p1.fz a[m].toNat
            have c1 := p1.cell a[m].toNat hcl
            clear hdf
            go_wp2_with fail
            go_region
            go_wp2
            go_roundw
            case rel =>
              refine ⟨m + 1, by omega, by simp, ?_, (p0.other (p := ⟨w1.heap.size, a[m].toNat, none⟩) (by simp; omega) _).drew, ?_, (hB'.setCell (p := ⟨w1.heap.size, a[m].toNat, none⟩) (by simp; omega) _).drew⟩
              · intro j hj
                rcases (by omega : j < m ∨ j = m) with h | rfl
                · exact HD.out j h
                · exact HDF.out
              · refine GR.drew ((p1.set a[m].toNat (.int .u8 b[m].toNat)).congr fun i hi => ?_)
                simp only [mv]
                rw [mkF_succ fr to m hkf hkt, ← E1.out, ← E2.out]
                split <;> rfl
            case measure => simp [intOf]; omega
      · obtain rfl : k = a.size := by omega
        have hlt1 : ((a.size : Int) < a.size) = False := by simp
        have hok : mkOk fr to = true := mkOk_iff.2 ⟨by have := HFL.out; have := HTL.out; have := HLEN.out; omega, fun j hj => HD.out j (by have := HFL.out; omega)⟩
        have HOK := Lib.hid hok
        clear hok
        have hst2 := q0.storeCells rtR (mv (mkF fr to a.size)) (one_mv _)
        go_wp2
        refine wp_load_gr q1 rtR rfl rfl ?_
        go_wp2
        have q := q0.put (mv (mkF fr to a.size))
        have ql := q.load rtR
        refine bodyPost_ret (v := .tuple #[.agg (garr (mv (mkF fr to a.size))), .int .i64 0]) ?_ rfl ⟨?_, Below.setRow hB (Nat.le_refl _) _⟩
        · simp [results, Tryd.results12, asAddr, Result.andThen, ql]
        · unfold mkV; rw [if_pos HOK.out, HFL.out]
  · have hne : ((a.size : Int) != b.size) = true := by simp; omega
    have hne2 : (a.size != b.size) = true := by simp; omega
    have hno : mkOk fr to = false := by
      rw [← Bool.not_eq_true, mkOk_iff]
      rintro ⟨h, _⟩; omega
    have HNO := Lib.hid hno
    clear hfr hto hfl htl hno hlen
    go_enter Tryd.func12, Tryd.ntmps12
    go_wp2_with fail
    refine (HS.out _).mono ?_
    rintro e w1 ⟨rfl, hB1⟩
    have g1 := (g0.beside hB1).alloc (.cells (garr (mv same)) 28)
    have lB1 := hB1.size
    rw [World.size_alloc] at lB1
    have hst1 := store_new w1 rtR (mv same) u8z (one_mv same)
    have hBB : Below w.heap.size w (w1.alloc (.cells (garr (mv same)) 28)) :=
      (((Below.refl _ w).alloc (Nat.le_refl _) _).trans (hB1.mono (by rw [World.size_alloc]; omega))).alloc (by omega) _
    have HBB := Lib.hid hBB
    have hst2 := g1.storeCells rtR u8z one_z
    clear hB1 g0
    go_wp2
    have q := g1.put u8z
    have ql := q.load rtR
    refine bodyPost_ret (v := .tuple #[.agg (garr u8z), .int .i64 100]) ?_ rfl ⟨?_, Below.setRow HBB.out (Nat.le_refl _) _⟩
    · simp [results, Tryd.results12, asAddr, Result.andThen, ql]
    · unfold mkV; rw [HNO.out]; rfl

end Go.Proofs.YthnadcmejaciaaaDoor
