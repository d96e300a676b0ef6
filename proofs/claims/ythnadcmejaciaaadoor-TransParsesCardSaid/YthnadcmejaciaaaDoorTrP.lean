/- unlist. -/
import Derived.Test.YthnadcmejaciaaaDoorTrO
namespace Go.Proofs.YthnadcmejaciaaaDoor
open Go.RowKit
set_option linter.unusedVariables false
set_option linter.unusedSimpArgs false

theorem splitK_sum : ∀ (k : Nat) (s : List UInt8), ((Lib.splitK [92, 10] 0 k s).map List.length).sum ≤ s.length
  | 0, s => by simp [Lib.splitK]
  | k + 1, s => by
    unfold Lib.splitK
    split
    · simp
    · have ih := splitK_sum k (s.drop ((Lib.index s [92, 10]).toNat + 2))
      simp only [List.length_drop] at ih
      simp only [List.map_cons, List.sum_cons, List.length_take, List.length_cons, List.length_nil, Nat.zero_add, Nat.reduceAdd, Nat.add_zero]
      omega
theorem sum_mem : ∀ (L : List (List UInt8)) (x : List UInt8), x ∈ L → x.length ≤ (L.map List.length).sum
  | y :: L, x, h => by
    rw [List.map_cons, List.sum_cons]
    rcases List.mem_cons.1 h with rfl | h
    · omega
    · have := sum_mem L x h; omega
theorem unl_len : ∀ (L : List (List UInt8)) (o : List UInt8) (v : Int) (t : List UInt8) (v' : Int), unl L o v = some (t, v') → t.length ≤ o.length + (L.map List.length).sum
  | [], o, v, t, v', h => by simp only [unl, Option.some.injEq, Prod.mk.injEq] at h; rw [← h.1]; simp
  | x :: L, o, v, t, v', h => by
    rw [List.map_cons, List.sum_cons]
    simp only [unl] at h
    split at h
    · cases h
    · rename_i p hp
      have h1 := unln_len x.length x p (Nat.le_refl _) hp
      have h2 := unl_len L _ _ t v' h
      rw [List.length_append] at h2
      omega
theorem unl_wid {W : Int} : ∀ (L : List (List UInt8)) (o : List UInt8) (v : Int) (t : List UInt8) (v' : Int), unl L o v = some (t, v') → v ≤ W → (∀ x ∈ L, (x.length : Int) + 1 ≤ W) → v' ≤ W
  | [], o, v, t, v', h, hv, _ => by simp only [unl, Option.some.injEq, Prod.mk.injEq] at h; rw [← h.2]; exact hv
  | x :: L, o, v, t, v', h, hv, ha => by
    simp only [unl] at h
    split at h
    · cases h
    · refine unl_wid L _ _ t v' h ?_ (fun y hy => ha y (by simp [hy]))
      have := ha x (by simp)
      split
      · omega
      · exact hv
theorem spf_sum (l : List UInt8) : ((spf l).map List.length).sum ≤ l.length := splitK_sum _ _

def unlV (r : Option (List UInt8 × Int)) : Value := match r with
  | none => .tuple #[.string ByteArray.empty, .int .i64 0, .bool false]
  | some (t, v) => .tuple #[.string ⟨t.toArray⟩, .int .i64 v, .bool true]
theorem splitB_spf (S : ByteArray) : (Lib.splitB ⟨#[92, 10]⟩ 0 (Lib.countB S ⟨#[92, 10]⟩) S).map (·.data.toList) = spf S.data.toList := Lib.splitB_data _ _ _ _
theorem splitB_lenc (S : ByteArray) : (Lib.splitB ⟨#[92, 10]⟩ 0 (Lib.countB S ⟨#[92, 10]⟩) S).length = Lib.countB S ⟨#[92, 10]⟩ + 1 := Lib.splitB_all ⟨#[92, 10]⟩ (by decide) 0 _ S rfl
theorem SK.any {B b k : Nat} {w w' : World} {cs : Array Value} {T : TypeId} (h : SK B b w w') (hg : w.heap[k]? = some (.cells cs T (0, 0))) (hk : k ≠ b) (hT : T ≠ 5) : w'.heap[k]? = some (.cells cs T (0, 0)) :=
  h.2 k _ hg (by simpa using hk) (fun c fz e => by simp at e; exact hT e.2.1)

set_option maxRecDepth 100000 in
set_option maxHeartbeats 8000000 in
theorem unlist_c (S : ByteArray) (hs : S.size ≤ 10000) (w : World) (hm : MaxL w) :
    Calls Tryd.prog 29 #[.string S] w fun e w' => e = .returned (unlV (unl (spf S.data.toList) [] 2)) ∧ Below w.heap.size w w' := by
  obtain ⟨hz, hsz⟩ := zero_of_info (P := Tryd.prog) infoS
  obtain ⟨l, hl⟩ : ∃ l, l = S.data.toList := ⟨_, rfl⟩
  have hll : l.length = S.size := by rw [hl]; simp
  obtain ⟨X, hX⟩ : ∃ X, X = Lib.splitB ⟨#[92, 10]⟩ 0 (Lib.countB S ⟨#[92, 10]⟩) S := ⟨_, rfl⟩
  obtain ⟨N, hN⟩ : ∃ N, N = Lib.countB S ⟨#[92, 10]⟩ + 1 := ⟨_, rfl⟩
  have hXl : X.length = N := by rw [hX, hN]; exact splitB_lenc S
  have hXs : X.map (·.data.toList) = spf l := by rw [hX, hl]; exact splitB_spf S
  have hNb : N ≤ S.size + 1 := by
    have := Lib.countB_le ⟨#[92, 10]⟩ (by decide) S.size S (Nat.le_refl _)
    omega
  have hsum := spf_sum l
  have hmem := sum_mem (spf l)
  have HSP := Lib.hid (fun m w hm => Tryd.strings_Split S ⟨#[92, 10]⟩ m w (by omega) hm (by decide))
  rw [← hX] at HSP
  have e1 : ((Lib.countB S ⟨#[92, 10]⟩ : Nat) : Int) = (N : Int) - 1 := by omega
  rw [← hN] at HSP
  rw [← hl]
  have HT := Lib.hid (fun w => table_c w)
  have HL := Lib.hid hl
  have HLL := Lib.hid hll
  have HXS := Lib.hid hXs
  have HXL := Lib.hid hXl
  have HMEM := Lib.hid (fun x hx => Nat.le_trans (hmem x hx) hsum)
  have hb0 : Below w.heap.size w (w.alloc (.cells #[.pointer none, .slice none 0 0] 52)) := (Below.refl _ w).alloc (Nat.le_refl _) _
  have H0 := Lib.hid (And.intro hb0 (SB.new w w.heap.size (Nat.le_refl _)))
  clear hb0 hl hll hX hN hXs hXl hsum hmem e1
  go_enter Tryd.func29, Tryd.ntmps29
  go_wp2_with fail
  refine (HT.out _).mono ?_
  rintro e w1 ⟨rfl, hB1⟩
  have lB1 := hB1.size
  rw [World.size_alloc] at lB1
  have hst := store_new w1 rtS (sval pcn) sz (one_sval _)
  have hG2 := GR.new 66 w1 (sval pcn)
  have hSB2 := (H0.out.2.below hB1).below ((Below.refl _ w1).alloc (Nat.le_refl _) (.cells (garr (sval pcn)) 66))
  have hBB : Below w.heap.size w (w1.alloc (.cells (garr (sval pcn)) 66)) := (H0.out.1.trans (hB1.mono (by rw [World.size_alloc]; omega))).alloc (by omega) _
  obtain ⟨m, hmc, _⟩ := hm.below hBB
  have HM := Lib.hid hmc
  have H2 := Lib.hid (And.intro hBB (And.intro hSB2 hG2))
  clear hB1 hG2 hSB2 hBB hmc hm
  go_wp2_with fail
  clear hst
  refine (HSP.out m _ HM.out).mono ?_
  rintro e w2 ⟨rfl, hw2⟩
  obtain ⟨sp, hsp⟩ : ∃ sp, sp = w1.heap.size + 1 := ⟨_, rfl⟩
  have hrow : w2.heap[sp]? = some (.cells (X.map Value.string).toArray 9 (0, 0)) := by
    rw [hw2, hsp]
    have := heap_new (w1.alloc (.cells (garr (sval pcn)) 66)) (.cells (X.map Value.string).toArray 9)
    rwa [World.size_alloc] at this
  have hBw2 : Below (w1.heap.size + 1) (w1.alloc (.cells (garr (sval pcn)) 66)) w2 := by
    rw [hw2]
    have := (Below.refl _ (w1.alloc (.cells (garr (sval pcn)) 66))).alloc (Nat.le_refl _) (.cells (X.map Value.string).toArray 9)
    rwa [World.size_alloc] at this
  have hBB2 : Below w.heap.size w w2 := H2.out.1.trans (hBw2.mono (by omega))
  have hG3 := H2.out.2.2.below hBw2 (by omega)
  have hSB3 := H2.out.2.1.below (by rw [World.size_alloc]; exact hBw2)
  have H3 := Lib.hid (And.intro hBB2 (And.intro hSB3 (And.intro hG3 hrow)))
  simp only [World.size_alloc, ← hsp]
  have HSPD := Lib.hid hsp
  have hspl : w.heap.size + 2 ≤ sp ∧ sp = w1.heap.size + 1 := by omega
  obtain ⟨hsp1, hsp2⟩ := hspl
  have HW1L : w1.heap.size ≠ w.heap.size := by omega
  clear hw2 hsp hrow hBw2 hBB2 hG3 hSB3 H2 H0 HM hsp2
  go_wp2
  go_loopw [6, 16] (fun u i wr => ∃ (k : Nat) (v : Int) (out : List UInt8), k ≤ N ∧ i = .int .i64 k ∧ u = .int .i64 v ∧ 2 ≤ v ∧ v ≤ 100001 ∧ out.length ≤ k * 10000 ∧ unl (spf l) [] 2 = unl ((spf l).drop k) out v ∧ Below w.heap.size w wr ∧ SB w.heap.size w.heap.size (Lib.byteCells out) wr ∧ GR 66 wr w1.heap.size (sval pcn) ∧ wr.heap[sp]? = some (.cells (X.map Value.string).toArray 9 (0, 0))) (fun _ i _ => N - (RowKit.intOf i).toNat)
  case atStart => exact ⟨0, 2, [], by omega, rfl, rfl, by omega, by omega, by simp, rfl, H3.out.1, H3.out.2.1, H3.out.2.2.1, H3.out.2.2.2⟩
  case round =>
    clear H3
    obtain ⟨k, v, out, hk, rfl, rfl, hv1, hv2, ho, hun, hB, hsb, hG, hrow⟩ := hrel
    have lB := hB.size
    by_cases hlt : k < N
    · have hkX : k < X.length := by have := HXL.out; omega
      obtain ⟨x, hx⟩ : ∃ x, x = X[k] := ⟨_, rfl⟩
      have hcell : wr.cell? ⟨sp, k, none⟩ = some (.string x) := by
        rw [cell_of _ _ _ _ hrow]
        simp [List.getElem?_eq_getElem hkX, hx]
      have hxl : (spf l)[k]? = some x.data.toList := by
        rw [← HXS.out, List.getElem?_map, List.getElem?_eq_getElem hkX, hx]; rfl
      have hxs : x.size ≤ 10000 := by
        have := HMEM.out _ (List.mem_of_getElem? hxl)
        have h2 := HLL.out
        have h3 : x.data.toList.length = x.size := by simp
        omega
      have hdr : (spf l).drop k = x.data.toList :: (spf l).drop (k + 1) := by
        obtain ⟨hk2, e⟩ := List.getElem?_eq_some_iff.1 hxl
        rw [List.drop_eq_getElem_cons hk2, e]
      rw [hdr] at hun
      simp only [unl] at hun
      have HUL := unline_c w1.heap.size x (by omega) wr hG
      have hki : (k : Int) < N := by omega
      cases hp : unln x.data.toList with
      | none =>
        rw [hp] at hun HUL
        have HU := Lib.hid hun
        have HULH := Lib.hid HUL
        clear hx hxl hdr hun hp HUL hsb hG
        go_wp2_with fail
        refine HULH.out.mono ?_
        rintro e w3 ⟨rfl, hB3⟩
        have HB := Lib.hid (hB.trans (hB3.mono lB))
        unfold unV
        clear hB3
        go_wp2
        go_ret3
        exact ⟨by rw [HU.out]; rfl, HB.out⟩
      | some p =>
        rw [hp] at hun HUL
        simp only at hun
        have hpl := unln_len _ _ p (Nat.le_refl _) hp
        rw [show x.data.toList.length = x.size by simp] at hpl
        rw [show x.data.toList.length = x.size by simp] at hun
        obtain ⟨P, hP⟩ : ∃ P : ByteArray, P = ⟨p.toArray⟩ := ⟨_, rfl⟩
        have hPs : P.size = p.length := by rw [hP, ba_size]
        have HUV : Hid (unV (some p) = .tuple #[.string P, .bool true]) := Lib.hid (by rw [hP]; rfl)
        have HULH := Lib.hid HUL
        have HSB := Lib.hid hsb
        have HG := Lib.hid hG
        have HROW := Lib.hid hrow
        have HP := Lib.hid hP
        have HU := Lib.hid hun
        have hcl := cells_len out
        have HCL := Lib.hid hcl
        have hbnd : k * 10000 ≤ 100010000 := by omega
        clear hx hxl hdr hun hp HUL hsb hG hP hcl hrow
        by_cases h1 : 1 < p.length
        · have t1 : (1 : Int) < (P.size : Int) := by omega
          have HH1 := Lib.hid h1
          have HPS := Lib.hid hPs
          clear h1 hPs
          go_wp2_with fail
          refine HULH.out.mono ?_
          rintro e w3 ⟨rfl, hB3⟩
          have hSB3 := HSB.out.below hB3
          have hG3 := HG.out.beside hB3
          have hrow3 := (hB3.block sp (Array.getElem?_eq_some_iff.1 HROW.out).1).trans HROW.out
          have HW := Lib.hid (wstr_c w.heap.size w.heap.size (Lib.byteCells out) P w3 hSB3 (by have := HCL.out; have := HPS.out; omega) (by have := hB3.size; omega))
          have H5 := Lib.hid (And.intro hG3 hrow3)
          have HB3 := Lib.hid (hB.trans (hB3.mono lB))
          rw [HUV.out]
          clear hB3 hSB3 hG3 hrow3
          go_wp2_with fail
          refine HW.out.mono ?_
          rintro e w4 ⟨rfl, hsb4, hk4⟩
          have hG4 := hk4.gr H5.out.1 (by omega) (by decide)
          have hrow4 := hk4.any H5.out.2 (by omega) (by decide)
          have H6 := Lib.hid (And.intro hG4 (And.intro hrow4 (HB3.out.trans hk4.1)))
          have HSB4 := Lib.hid hsb4
          clear hG4 hrow4 hk4 hsb4
          go_wp2
          go_roundw
          case rel =>
            refine ⟨k + 1, max v ((x.size : Int) + 1), out ++ p, by omega, by simp, ?_, by omega, by omega, ?_, ?_, H6.out.2.2, ?_, H6.out.1, H6.out.2.1⟩
            · first | rfl | simp
            · have := HPS.out; rw [List.length_append]; omega
            · rw [HU.out, if_pos HH1.out]
            · have := HSB4.out
              rw [HP.out, out_app] at this
              exact this
          case measure => (simp [RowKit.intOf]) <;> omega
        · have t1 : ¬ (1 : Int) < (P.size : Int) := by omega
          have HH1 := Lib.hid h1
          have HPS := Lib.hid hPs
          clear h1 hPs
          go_wp2_with fail
          refine HULH.out.mono ?_
          rintro e w3 ⟨rfl, hB3⟩
          have hSB3 := HSB.out.below hB3
          have hG3 := HG.out.beside hB3
          have hrow3 := (hB3.block sp (Array.getElem?_eq_some_iff.1 HROW.out).1).trans HROW.out
          have HW := Lib.hid (wstr_c w.heap.size w.heap.size (Lib.byteCells out) P w3 hSB3 (by have := HCL.out; have := HPS.out; omega) (by have := hB3.size; omega))
          have H5 := Lib.hid (And.intro hG3 hrow3)
          have HB3 := Lib.hid (hB.trans (hB3.mono lB))
          rw [HUV.out]
          clear hB3 hSB3 hG3 hrow3
          go_wp2_with fail
          refine HW.out.mono ?_
          rintro e w4 ⟨rfl, hsb4, hk4⟩
          have hG4 := hk4.gr H5.out.1 (by omega) (by decide)
          have hrow4 := hk4.any H5.out.2 (by omega) (by decide)
          have H6 := Lib.hid (And.intro hG4 (And.intro hrow4 (HB3.out.trans hk4.1)))
          have HSB4 := Lib.hid hsb4
          clear hG4 hrow4 hk4 hsb4
          go_wp2
          go_roundw
          case rel =>
            refine ⟨k + 1, v, out ++ p, by omega, by simp, rfl, by omega, by omega, ?_, ?_, H6.out.2.2, ?_, H6.out.1, H6.out.2.1⟩
            · have := HPS.out; rw [List.length_append]; omega
            · rw [HU.out, if_neg HH1.out]
            · have := HSB4.out
              rw [HP.out, out_app] at this
              exact this
          case measure => (simp [RowKit.intOf]) <;> omega
    · obtain rfl : k = N := by omega
      have hlt1 : ((k : Int) < k) = False := by simp
      rw [List.drop_eq_nil_of_le (by have := congrArg List.length HXS.out; rw [List.length_map, HXL.out] at this; omega)] at hun
      have ST := Lib.hid (Tryd.Builder_String_any_k w.heap.size w.heap.size out wr hsb lB)
      have HU := Lib.hid hun
      clear hsb hun hG hrow
      go_wp2_with fail
      refine ST.out.mono ?_
      rintro e w3 ⟨rfl, _, hB3, _⟩
      have HB := Lib.hid (hB.trans hB3)
      clear hB3
      go_wp2
      go_ret3
      exact ⟨by rw [HU.out]; rfl, HB.out⟩

end Go.Proofs.YthnadcmejaciaaaDoor
