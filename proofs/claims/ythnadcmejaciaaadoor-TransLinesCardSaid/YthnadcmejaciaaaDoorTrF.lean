/- Make; the reference's Make. -/
import Derived.Test.YthnadcmejaciaaaDoorTrD
namespace Go.Proofs.YthnadcmejaciaaaDoor
open Go.RowKit
set_option linter.unusedVariables false
set_option linter.unusedSimpArgs false

def bz : Nat → Value := fun _ => .bool false
theorem one_bz : oneAll bz := fun _ => rfl
theorem infoB : (Tryd.prog.info? 45).map (fun i => (i.zero, i.size)) = some (some (.agg (garr bz)), 256) := by kernel_rfl
def bv (h : Nat → Bool) : Nat → Value := fun i => .bool (h i)
/-- Which bytes are there among the first k. -/
def inF (fr : List UInt8) (k : Nat) (j : Nat) : Bool := (fr.take k).contains (UInt8.ofNat j)
theorem inF_zero (fr : List UInt8) (j : Nat) : inF fr 0 j = false := by simp [inF]
theorem inF_succ (fr : List UInt8) (k : Nat) (hk : k < fr.length) (j : Nat) (hj : j < 256) : inF fr (k + 1) j = if j = fr[k].toNat then true else inF fr k j := by
  unfold inF
  rw [List.take_succ_eq_append_getElem hk, List.contains_append]
  by_cases e : j = fr[k].toNat
  · subst e; simp
  · rw [if_neg e]
    have : (UInt8.ofNat j == fr[k]) = false := by
      rw [beq_eq_false_iff_ne]
      intro h
      apply e
      rw [← h, UInt8.toNat_ofNat']
      omega
    simp only [List.contains_cons, List.contains_nil, this, Bool.or_false]
theorem inF_dup (fr : List UInt8) (k : Nat) (hk : k < fr.length) : inF fr k fr[k].toNat = dup fr k := by
  unfold inF dup
  simp [List.getD, List.getElem?_eq_getElem hk]
theorem mkF_succ (fr to : List UInt8) (k : Nat) (hk : k < fr.length) (ht : k < to.length) (j : Nat) : mkF fr to (k + 1) j = if j = fr[k].toNat then to[k] else mkF fr to k j := by
  simp [mkF, List.getD, List.getElem?_eq_getElem hk, List.getElem?_eq_getElem ht]
theorem mkOk_no {fr to : List UInt8} {k : Nat} (hk : k < fr.length) (h : dup fr k = true) : mkOk fr to = false := by
  rw [← Bool.not_eq_true, mkOk_iff]
  rintro ⟨_, h2⟩
  rw [h2 k hk] at h; cases h
/-- What Make answers. -/
def mkV (fr to : List UInt8) : Value := if mkOk fr to = true then .tuple #[.agg (garr (mv (mkF fr to fr.length))), .int .i64 0] else .tuple #[.agg (garr u8z), .int .i64 100]
theorem ba_get (s : ByteArray) (l : List UInt8) (h : s.data.toList = l) (k : Nat) (hk : k < s.size) (hkl : k < l.length) : s[k] = l[k] := by
  have h1 : l[k]? = s.data.toList[k]? := by rw [h]
  rw [List.getElem?_eq_getElem hkl, List.getElem?_eq_getElem (by simpa using hk)] at h1
  exact (Option.some.inj h1).symm

set_option maxRecDepth 100000 in
set_option maxHeartbeats 8000000 in
theorem make_c (a b : ByteArray) (hab : a.size = b.size → a.size ≤ 100000) (w : World) :
    Calls Tryd.prog 11 #[.string a, .string b] w fun e w' => e = .returned (mkV a.data.toList b.data.toList) ∧ Below w.heap.size w w' := by
  obtain ⟨hz, hsz⟩ := zero_of_info (P := Tryd.prog) infoM
  obtain ⟨hzb, hszb⟩ := zero_of_info (P := Tryd.prog) infoB
  obtain ⟨fr, hfr⟩ : ∃ l, l = a.data.toList := ⟨_, rfl⟩
  obtain ⟨to, hto⟩ : ∃ l, l = b.data.toList := ⟨_, rfl⟩
  rw [← hfr, ← hto]
  have hfl : fr.length = a.size := by rw [hfr]; simp
  have htl : to.length = b.size := by rw [hto]; simp
  have HFR := Lib.hid hfr
  have HTO := Lib.hid hto
  have HFL := Lib.hid hfl
  have HTL := Lib.hid htl
  have g0 := GR.new 23 w u8z
  have hst := g0.storeCells rtM u8z one_z
  have HS := Lib.hid (fun w => same_c w)
  by_cases hlen : a.size = b.size
  · have ha := hab hlen
    have hb : b.size ≤ 100000 := by omega
    have hne : ((a.size : Int) != b.size) = false := by simp [hlen]
    have hne2 : (a.size != b.size) = false := by simp [hlen]
    have HLEN := Lib.hid hlen
    clear hfr hto hfl htl hst hlen
    go_enter Tryd.func11, Tryd.ntmps11
    go_wp2_with fail
    refine (HS.out _).mono ?_
    rintro e w1 ⟨rfl, hB1⟩
    have g1 := g0.beside hB1
    have lB1 := hB1.size
    rw [World.size_alloc] at lB1
    have hst1 := store_new w1 rtM (mv same) u8z (one_mv same)
    have hBB : Below w.heap.size w ((w1.alloc (.cells (garr (mv same)) 23)).alloc (.cells (garr bz) 45)) :=
      ((((Below.refl _ w).alloc (Nat.le_refl _) _).trans (hB1.mono (by rw [World.size_alloc]; omega))).alloc (by omega) _).alloc (by rw [World.size_alloc]; omega) _
    have HBB := Lib.hid hBB
    clear hB1 g0
    go_wp2
    clear hst1
    go_loopw [19] (fun i wr => ∃ k : Nat, k ≤ a.size ∧ i = .int .i64 k ∧ (∀ j, j < k → dup fr j = false) ∧ GR 23 wr w.heap.size u8z ∧ GR 23 wr w1.heap.size (mv (mkF fr to k)) ∧ GR 45 wr (w1.heap.size + 1) (bv (inF fr k)) ∧ Below w.heap.size w wr) (fun i _ => a.size - (intOf i).toNat)
    case atStart =>
      refine ⟨0, by omega, rfl, fun j hj => absurd hj (by omega), (g1.alloc _).alloc _, ?_, ?_, HBB.out⟩
      · exact (GR.new _ w1 _).alloc _
      · have := GR.new 45 (w1.alloc (.cells (garr (mv same)) 23)) bz
        rw [World.size_alloc] at this
        exact this.congr fun i _ => by simp [bz, bv, inF_zero]
    case round =>
      obtain ⟨k, hk, rfl, hd, q0, q1, q2, hB⟩ := hrel
      have HD := Lib.hid hd
      clear hd
      by_cases hlt : k < a.size
      · have hkf : k < fr.length := by have := HFL.out; omega
        have hkt : k < to.length := by have := HTL.out; have := HLEN.out; omega
        have hltb : k < b.size := by have := HLEN.out; omega
        have e1 := ba_get a fr HFR.out.symm k hlt hkf
        have e2 := ba_get b to HTO.out.symm k hltb hkt
        have hcl := (a[k]).toNat_lt
        have c2 := q2.cell a[k].toNat hcl
        unfold bv at c2
        have f1 := q1.fz a[k].toNat
        have f2 := q2.fz a[k].toNat
        have c1 := q1.cell a[k].toNat hcl
        have hdup := inF_dup fr k hkf
        rw [← e1] at hdup
        rw [hdup] at c2
        have E1 := Lib.hid e1
        have E2 := Lib.hid e2
        have HDUP := Lib.hid hdup
        clear e1 e2 hdup
        cases hv : dup fr k
        · rw [hv] at c2
          have HV := Lib.hid hv
          clear hv
          go_wp2
          go_roundw
          case rel =>
            refine ⟨k + 1, by omega, by simp, ?_, (q0.other (by simp; omega) _).other (by simp; omega) _, ?_, ?_, (hB.setCell (p := ⟨w1.heap.size + 1, a[k].toNat, none⟩) (by simp; omega) _).setCell (p := ⟨w1.heap.size, a[k].toNat, none⟩) (by simp; omega) _⟩
            · intro j hj
              rcases (by omega : j < k ∨ j = k) with h | rfl
              · exact HD.out j h
              · exact HV.out
            · refine ((q1.other (by simp) _).set _ _).congr fun i hi => ?_
              simp only [mv]
              rw [mkF_succ fr to k hkf hkt, ← E1.out, ← E2.out]
              split <;> rfl
            · refine ((q2.set _ _).other (by simp) _).congr fun i hi => ?_
              simp only [bv]
              rw [inF_succ fr k hkf i hi, ← E1.out]
              split <;> rfl
          case measure => simp [intOf]; omega
        · rw [hv] at c2
          have hno := mkOk_no (to := to) hkf hv
          have HNO := Lib.hid hno
          have hst2 := q0.storeCells rtM u8z one_z
          clear hv hno
          go_wp2
          have q := q0.put u8z
          have ql := q.load rtM
          refine bodyPost_ret (v := .tuple #[.agg (garr u8z), .int .i64 100]) ?_ rfl ⟨?_, Below.setRow hB (Nat.le_refl _) _⟩
          · simp [results, Tryd.results11, asAddr, Result.andThen, ql]
          · unfold mkV; rw [HNO.out]; rfl
      · obtain rfl : k = a.size := by omega
        have hlt1 : ((a.size : Int) < a.size) = False := by simp
        have hok : mkOk fr to = true := mkOk_iff.2 ⟨by have := HFL.out; have := HTL.out; have := HLEN.out; omega, fun j hj => HD.out j (by have := HFL.out; omega)⟩
        have HOK := Lib.hid hok
        clear hok
        have hst2 := q0.storeCells rtM (mv (mkF fr to a.size)) (one_mv _)
        go_wp2
        refine wp_load_gr q1 rtM rfl rfl ?_
        go_wp2
        have q := q0.put (mv (mkF fr to a.size))
        have ql := q.load rtM
        refine bodyPost_ret (v := .tuple #[.agg (garr (mv (mkF fr to a.size))), .int .i64 0]) ?_ rfl ⟨?_, Below.setRow hB (Nat.le_refl _) _⟩
        · simp [results, Tryd.results11, asAddr, Result.andThen, ql]
        · unfold mkV; rw [if_pos HOK.out, HFL.out]
  · have hne : ((a.size : Int) != b.size) = true := by simp; omega
    have hne2 : (a.size != b.size) = true := by simp; omega
    have hno : mkOk fr to = false := by
      rw [← Bool.not_eq_true, mkOk_iff]
      rintro ⟨h, _⟩; omega
    have HNO := Lib.hid hno
    clear hfr hto hfl htl hno hlen
    go_enter Tryd.func11, Tryd.ntmps11
    go_wp2
    have q := g0.put u8z
    have ql := q.load rtM
    refine bodyPost_ret (v := .tuple #[.agg (garr u8z), .int .i64 100]) ?_ rfl ⟨?_, Below.setRow ((Below.refl _ w).alloc (Nat.le_refl _) _) (Nat.le_refl _) _⟩
    · simp [results, Tryd.results11, asAddr, Result.andThen, ql]
    · unfold mkV; rw [HNO.out]; rfl

end Go.Proofs.YthnadcmejaciaaaDoor
