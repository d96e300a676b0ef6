/- slices.Concat of files. -/
import Derived.Test.YtkdnnhjoeaoihaaTbC
namespace Go.Proofs.Ytkdnnhjoeaoihaa
open Go.RowKit Go.Shelf
set_option linter.unusedVariables false
set_option linter.unusedSimpArgs false

def tot (N : Nat → Nat) : Nat → Nat
  | 0 => 0
  | k + 1 => tot N k + N k
def catF (X : Nat → List Fl) : Nat → List Fl
  | 0 => []
  | k + 1 => catF X k ++ X k
theorem tot_mono (N : Nat → Nat) {j k : Nat} (h : j ≤ k) : tot N j ≤ tot N k := by
  induction h with
  | refl => exact Nat.le_refl _
  | step _ ih => exact Nat.le_trans ih (by simp [tot])

set_option maxRecDepth 100000 in
set_option maxHeartbeats 4000000 in
theorem concat_c (B m cap : Nat) (P : Nat → Option Addr) (N C : Nat → Nat) (X : Nat → List Fl) (w : World) (hm : m ≤ 100) (hBl : B < w.heap.size)
    (hc : ∀ k, k < m → w.cell? ⟨B, k, none⟩ = some (.slice (P k) (N k) (C k))) (hF : ∀ k, k < m → Files w (P k) (N k) (C k) (X k)) (h1 : 1 ≤ tot N m) (h2 : tot N m ≤ 100000) :
    Calls Try.prog 31 #[.slice (some ⟨B, 0, none⟩) m cap] w fun e w' => (∃ v, e = .returned v ∧ w'.ownsRow w.heap.size 35 2 v (tot N m) (frow (catF X m))) ∧ Below w.heap.size w w' := by
  obtain ⟨i0, hi, hz0, hz1, hz2⟩ := info_parts infoF
  have HC := Lib.hid hc
  have HF := Lib.hid hF
  clear hc hF
  have HT := Lib.hid (fun k (h : k ≤ m) => tot_mono N h)
  go_enter Try.func31, Try.ntmps31
  go_wp2
  go_loop [3, 11] (fun z i => ∃ k : Nat, k ≤ m ∧ i = .int .i64 k ∧ z = .int .i64 (tot N k : Nat)) (fun _ i => m - (intOf i).toNat)
  case atStart => exact ⟨0, by omega, rfl, rfl⟩
  case round =>
    obtain ⟨k, hk, rfl, rfl⟩ := hrel
    by_cases hlt : k < m
    · have c0 := HC.out k hlt
      have hki : (k : Int) < m := by omega
      have ht := HT.out (k + 1) (by omega)
      obtain ⟨z, hz⟩ : ∃ z : Nat, z = tot N k := ⟨_, rfl⟩
      obtain ⟨y, hy⟩ : ∃ y : Nat, y = N k := ⟨_, rfl⟩
      have hs : tot N (k + 1) = z + y := by rw [hz, hy]; rfl
      rw [hs] at ht
      rw [← hz]
      rw [← hy] at c0
      have HS := Lib.hid hs
      clear hs hz hy
      have hsmall : z + y ≤ 100000 := by omega
      go_wp2
      go_round
      case rel => exact ⟨k + 1, by omega, by simp, by rw [HS.out]; simp⟩
      case measure => simp [intOf]; omega
    · obtain rfl : k = m := by omega
      have hlt1 : ((k : Int) < k) = False := by simp
      obtain ⟨z, hz⟩ : ∃ z : Nat, z = tot N k := ⟨_, rfl⟩
      rw [← hz] at h1 h2
      have HG := Lib.hid (grow_c z w h2 h1)
      rw [← hz]
      have HZ := Lib.hid hz
      clear hz
      go_wp2_with fail
      refine HG.out.mono ?_
      rintro e w1 ⟨⟨v, rfl, hown⟩, hB⟩
      go_wp2_with fail
      go_loopw [6, 27] (fun v i wr => ∃ (j : Nat) (v' : Value), v = v' ∧ j ≤ k ∧ i = .int .i64 j ∧ wr.ownsRow w.heap.size 35 2 v' (tot N j) (frow (catF X j)) ∧ Below w.heap.size w wr) (fun _ i _ => k - (intOf i).toNat)
      case atStart => exact ⟨0, _, rfl, by omega, rfl, hown, hB⟩
      case round =>
        clear hown hB hk
        obtain ⟨j, v, rfl, hj, rfl, hown, hB⟩ := hrel
        by_cases hltj : j < k
        · have c0 := HC.out j hltj
          rw [← hB.cell (p := ⟨B, j, none⟩) hBl] at c0
          have hfj := (HF.out j hltj).beside hB
          have hlj := hfj.len
          have hki : (j : Int) < k := by omega
          have ht := HT.out (j + 1) (by omega)
          rw [← HZ.out] at ht
          have hfr : frow (catF X (j + 1)) = frow (catF X j) ++ frow (X j) := frow_app _ _
          have hto : tot N (j + 1) = tot N j + N j := rfl
          rw [hto] at ht
          have hfl := frow_len (X j)
          rw [hlj] at hfl
          have HFR := Lib.hid hfr
          have HTO := Lib.hid hto
          have HFL := Lib.hid hfl
          have lB := hB.size
          clear hfr hto hfl
          cases hp : P j with
          | none =>
            rw [hp] at c0 hfj
            obtain ⟨e1, e2⟩ := hfj.nil rfl
            rw [e1, e2] at c0
            have hx0 : X j = [] := List.eq_nil_of_length_eq_zero (by omega)
            rw [e1, hx0] at hfj
            have HX := Lib.hid hx0
            have HE := Lib.hid e1
            clear hx0 e1 e2 hlj hp
            go_wp2_with (at_builtin; refine wpList_append_own_none rfl _ _ 22 rfl w.heap.size 35 i0 2 Try.underlying22 hi _ _ _ rfl hown rfl ?_)
            go_roundw
            case rel => exact ⟨j + 1, _, rfl, by omega, by simp, by rw [HFR.out, HTO.out, HX.out, HE.out]; simpa [frow] using hown, hB⟩
            case measure => simp [intOf]; omega
          | some a =>
            rw [hp] at c0 hfj
            have HN := Lib.hid hfj.news
            clear hlj hp
            go_wp2_with (at_builtin; refine wpList_append_own _ rfl _ _ 22 rfl w.heap.size 35 i0 (.agg #[.string ByteArray.empty, .string ByteArray.empty]) 2 32 Try.underlying22 hi hz0 hz1 hz2 rfl (by decide) _ _ _ rfl hown a (N j) (C j) (frow (X j)) rfl HFL.out HN.out (frow_one (X j)) ?qc4 ?qc5 ?qc6 ?_)
            case qc4 => unfold maxLen; omega
            case qc5 => omega
            case qc6 => exact lB
            intro v' w4 hown1 hgrow hnil
            have hB1 : Below w.heap.size w w4 := hB.grown hgrow lB (fun k hk => (hown.lt k hk).1)
            go_wp2
            go_roundw
            case rel => exact ⟨j + 1, v', rfl, by omega, by simp, by rw [HFR.out, HTO.out]; exact hown1, hB1⟩
            case measure => simp [intOf]; omega
        · obtain rfl : j = k := by omega
          have hlt2 : ((j : Int) < j) = False := by simp
          go_wp2
          go_ret
          exact ⟨⟨_, rfl, hown⟩, hB⟩

end Go.Proofs.Ytkdnnhjoeaoihaa
