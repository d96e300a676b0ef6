/- read's closure node at a Bytes. -/
import Derived.Test.YtfkidgbjjlgjdaaDoorZRxTn
namespace Go.Proofs.YtfkidgbjjlgjdaaDoor
open Go.RowKit Go.Lib
set_option linter.unusedVariables false
set_option linter.unusedSimpArgs false

set_option maxRecDepth 100000 in
set_option maxHeartbeats 4000000 in
theorem node_s (w0 : World) (K n : Nat) (H : NodeC w0 K n) (σ : Rd) (hl : σ.left.headD 0 = 91) (hb : σ.begun + 1 ≤ 120) (w : World) (hs : Small (n + 1) σ ((σ.nx.tl.up 93).put (bytesNd (unhex (σ.nx.tl.ahead 93)))).2) (h : RE w0 K σ w) :
    Calls Tryd.prog 43 #[.pointer (some ⟨K + 2, 0, none⟩), .pointer (some ⟨K, 0, none⟩), .pointer (some ⟨K + 4, 0, none⟩), .pointer (some ⟨K + 6, 0, none⟩), .pointer (some ⟨K + 7, 0, none⟩), .pointer (some ⟨K + 8, 0, none⟩)] w fun e w' => e = .returned (.int .i64 ((σ.nx.tl.up 93).put (bytesNd (unhex (σ.nx.tl.ahead 93)))).1) ∧ RE w0 K ((σ.nx.tl.up 93).put (bytesNd (unhex (σ.nx.tl.ahead 93)))).2 w' ∧ Below K w w' := by
  obtain ⟨s1, s2, s3, s4, s5⟩ := hs
  have c2 := heap1 h.bg
  have f2 := frozen_of _ _ _ _ h.bg 0
  have hw : IntKind.i64.wrap ((σ.begun : Int) + 1) = (σ.begun : Int) + 1 := by simp [IntKind.wrap, IntKind.signed, IntKind.bits]; omega
  have h1 := h.nx ((σ.begun : Int) + 1) rfl
  have hB1 : Below K w (w.setCell ⟨K + 2, 0, none⟩ (.int .i64 ((σ.begun : Int) + 1))) := (only_set K (K + 2) w (by omega) _).below
  have d2 : (w.setCell ⟨K + 2, 0, none⟩ (.int .i64 ((σ.begun : Int) + 1))).cell? ⟨K + 2, 0, none⟩ = some (.int .i64 ((σ.begun : Int) + 1)) := by
    have := heap1 h1.bg
    simpa [Rd.nx] using this
  have hgt : ((120 : Int) < (σ.begun : Int) + 1) = False := by simp; omega
  have NX := next_c K σ.left _ h1.c
  have hv : (((σ.left.headD 0).toNat : Nat) : Int) = 91 := by rw [hl]; rfl
  rw [hv] at NX
  have NX1 := Lib.hid NX
  clear NX h
  go_enter Tryd.func43, Tryd.ntmps43
  go_wp2_with fail
  refine NX1.out.mono ?_
  rintro e w2 ⟨rfl, hc2, hO2⟩
  have h2 : RE w0 K σ.nx.tl w2 := h1.left hO2 hc2
  have hB2 := hB1.trans hO2.below
  clear h1 hB1 NX1 hO2 hc2 c2 f2 d2 hw hgt hv hl
  have lx : (σ.nx.tl.up 93).xs.length ≤ 1000 := by
    have : (σ.nx.tl.up 93).xs.length + 1 ≤ 1000 := by simpa [Rd.put] using s5
    omega
  have ll : σ.nx.tl.left.length < 4294967281 := by
    have := ((Goes.nx σ).trans (Goes.tl σ.nx)).l
    omega
  have hcl := (cut_len σ.nx.tl.left [93]).1
  have hul := unhex_len (σ.nx.tl.ahead 93)
  have hal : (σ.nx.tl.ahead 93).length < 4294967281 := by
    have : (σ.nx.tl.ahead 93).length ≤ σ.nx.tl.left.length := hcl
    omega
  have h2d := h2.drew
  have U : Hid (Calls Tryd.prog 45 #[.pointer (some ⟨K, 0, none⟩), .string ⟨#[93]⟩] w2.drew fun r w' => r = .returned (.string ⟨(σ.nx.tl.ahead 93).toArray⟩) ∧ Scan w' K ⟨(σ.nx.tl.up 93).left.toArray⟩ ∧ Only K K w2.drew w') :=
    Lib.hid (upto_c K K (Nat.le_refl _) ⟨σ.nx.tl.left.toArray⟩ ⟨#[93]⟩ (by simpa [ByteArray.size] using ll) w2.drew h2d.vars.max h2d.c)
  have OH := Lib.hid fun w' => ofhex_c (σ.nx.tl.ahead 93) hal w'
  have OF := Lib.hid fun w' => of_c ⟨(unhex (σ.nx.tl.ahead 93)).toArray⟩ (by simp [ByteArray.size]; omega) w'
  have e1 : ∀ w', RE w0 K ⟨(σ.nx.tl.up 93).left, σ.nx.tl.xs, σ.nx.tl.begun, σ.nx.tl.groups⟩ w' → RE w0 K (σ.nx.tl.up 93) w' := fun _ h => h
  have e2 : (unhex (σ.nx.tl.ahead 93)).length = (⟨(unhex (σ.nx.tl.ahead 93)).toArray⟩ : ByteArray).size := by simp [ByteArray.size]
  obtain ⟨f, hf⟩ : ∃ f, inS (⟨(unhex (σ.nx.tl.ahead 93)).toArray⟩ : ByteArray) (⟨(unhex (σ.nx.tl.ahead 93)).toArray⟩ : ByteArray).size = f := ⟨_, rfl⟩
  have e9 : bytesNd (unhex (σ.nx.tl.ahead 93)) = ⟨1, wd f 0, wd f 1, wd f 2, wd f 3, 0, 0, 0, 0, 0⟩ := by unfold bytesNd; rw [e2, hf]
  have E9 := Lib.hid e9
  rw [hf] at OF
  have OF1 : Hid (∀ w' : World, Calls Tryd.prog 19 #[.string ⟨(unhex (σ.nx.tl.ahead 93)).toArray⟩] w' fun e w'' => e = .returned (.agg #[.int .u64 (wd f 0), .int .u64 (wd f 1), .int .u64 (wd f 2), .int .u64 (wd f 3)]) ∧ Below w'.heap.size w' w'') := OF
  clear hcl hul hal ll s5 e2 e9 hf OF
  go_wp2_with fail
  refine wp_region_noPanic ?_
  refine wp_region_held_drew (S := fun w' => w'.cell? ⟨K + 4, 0, none⟩ = some (.func (.func 37) #[] #[.pointer (some ⟨K + 1, 0, none⟩)]) ∧ w'.cell? ⟨K + 5, 0, none⟩ = some (.func (.func 43) #[] #[.pointer (some ⟨K + 2, 0, none⟩), .pointer (some ⟨K, 0, none⟩), .pointer (some ⟨K + 4, 0, none⟩), .pointer (some ⟨K + 6, 0, none⟩), .pointer (some ⟨K + 7, 0, none⟩), .pointer (some ⟨K + 8, 0, none⟩)])) (by kernel_rfl) ?_ (fun hHeld => ?_)
  · (try dsimp only); exact ⟨heap1 h2.f4, heap1 h2.f5⟩
  refine wpAnyH_take (i := 0) (v := ?_) rfl (by kernel_rfl) (by kernel_rfl) (by kernel_rfl) (fun _ _ _ h => h) (Or.inl ⟨by kernel_rfl, ?_⟩) (by assumption) ?_
  rotate_left
  · (intro w hSw; (try dsimp only at hSw); go_simp); (try with_reducible rfl)
  try simp only [Act.put, List.getElem_toArray, List.getElem_cons_succ, List.getElem_cons_zero, List.setIfInBounds_toArray, List.set_cons_zero, List.set_cons_succ]
  refine wpAnyH_ready (rs := [1]) (by kernel_rfl) (by simp) ?_
  refine AllReadyH.cons rfl (fun KK hK => ?_) ?_
  rotate_left
  · exact AllReadyH.nil
  go_simp
  refine U.out.mono ?_
  rintro e w3 ⟨rfl, hc3, hO3⟩
  have h3 := e1 w3 (h2d.left hO3 hc3)
  have hB3 := hB2.drew.trans hO3.below
  clear U hO3 hc3 e1
  refine hK.out _ _ ?_ (fun hHeld => ?_)
  · (try dsimp only); exact ⟨heap1 h3.f4, heap1 h3.f5⟩
  clear hK KK
  try simp only [Act.put, List.getElem_toArray, List.getElem_cons_succ, List.getElem_cons_zero, List.setIfInBounds_toArray, List.set_cons_zero, List.set_cons_succ]
  refine wpAnyH_ready (rs := [2]) (by kernel_rfl) (by simp) ?_
  refine AllReadyH.cons rfl (fun KK hK => ?_) ?_
  rotate_left
  · exact AllReadyH.nil
  go_simp
  refine (OH.out w3).mono ?_
  rintro e w4 ⟨rfl, hb4⟩
  have h4 := h3.below hb4
  have hB4 := hB3.trans (hb4.mono (by have := h3.size; omega))
  clear hb4 OH
  refine hK.out _ _ ?_ (fun hHeld => ?_)
  · (try dsimp only); exact ⟨heap1 h4.f4, heap1 h4.f5⟩
  clear hK KK
  try simp only [Act.put, List.getElem_toArray, List.getElem_cons_succ, List.getElem_cons_zero, List.setIfInBounds_toArray, List.set_cons_zero, List.set_cons_succ]
  refine wpAnyH_ready (rs := [3]) (by kernel_rfl) (by simp) ?_
  refine AllReadyH.cons rfl (fun KK hK => ?_) ?_
  rotate_left
  · exact AllReadyH.nil
  go_simp
  refine (OF1.out w4).mono ?_
  rintro e w5 ⟨rfl, hb5⟩
  have h5 := h4.below hb5
  have hB5 := hB4.trans (hb5.mono (by have := h4.size; omega))
  clear hb5 OF1
  refine hK.out _ _ ?_ (fun hHeld => ?_)
  · (try dsimp only); exact ⟨heap1 h5.f4, heap1 h5.f5⟩
  clear hK KK
  try simp only [Act.put, List.getElem_toArray, List.getElem_cons_succ, List.getElem_cons_zero, List.setIfInBounds_toArray, List.set_cons_zero, List.set_cons_succ]
  refine wpAnyH_take (i := 4) (v := ?_) rfl (by kernel_rfl) (by kernel_rfl) (by kernel_rfl) (fun _ _ _ h => h) (Or.inl ⟨by kernel_rfl, ?_⟩) (by assumption) ?_
  rotate_left
  · (intro w hSw; (try dsimp only at hSw); go_simp); (try with_reducible rfl)
  try simp only [Act.put, List.getElem_toArray, List.getElem_cons_succ, List.getElem_cons_zero, List.setIfInBounds_toArray, List.set_cons_zero, List.set_cons_succ]
  refine wpAnyH_ready (rs := [5]) (by kernel_rfl) (by simp) ?_
  refine AllReadyH.cons rfl (fun KK hK => ?_) ?_
  rotate_left
  · exact AllReadyH.nil
  go_simp
  refine (put_c w0 K (σ.nx.tl.up 93) ⟨1, wd f 0, wd f 1, wd f 2, wd f 3, 0, 0, 0, 0, 0⟩ w5 h5 lx).mono ?_
  rintro e w6 ⟨rfl, h6, hB6⟩
  refine hK.out _ _ ?_ (fun hHeld => ?_)
  · (try dsimp only); exact ⟨heap1 h6.f4, heap1 h6.f5⟩
  clear hK KK
  try simp only [Act.put, List.getElem_toArray, List.getElem_cons_succ, List.getElem_cons_zero, List.setIfInBounds_toArray, List.set_cons_zero, List.set_cons_succ]
  refine wpAnyH_take (i := 6) (v := ?_) rfl (by kernel_rfl) (by kernel_rfl) (by kernel_rfl) (fun _ _ _ h => h) (Or.inl ⟨by kernel_rfl, ?_⟩) (by assumption) ?_
  rotate_left
  · (intro w hSw; (try dsimp only at hSw); go_simp); (try with_reducible rfl)
  try simp only [Act.put, List.getElem_toArray, List.getElem_cons_succ, List.getElem_cons_zero, List.setIfInBounds_toArray, List.set_cons_zero, List.set_cons_succ]
  refine wpAnyH_done (by kernel_rfl) ?_ _
  refine NoPanic.normal ?_
  rw [← E9.out] at h6
  go_wp2
  go_ret
  exact ⟨rfl, h6, hB5.trans hB6⟩

end Go.Proofs.YtfkidgbjjlgjdaaDoor
