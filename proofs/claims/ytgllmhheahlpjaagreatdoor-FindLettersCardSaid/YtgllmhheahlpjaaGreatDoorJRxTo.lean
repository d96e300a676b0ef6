/- read's closure node at a Bytes. -/
import Derived.Test.YtgllmhheahlpjaaGreatDoorJRxTn
set_option linter.unusedVariables false
set_option linter.unusedSimpArgs false
set_option maxRecDepth 100000
set_option maxHeartbeats 40000000
namespace Go.Proofs.YtgllmhheahlpjaaGreatDoor
open Go.RowKit Go.Lib
theorem node_s (w0 : World) (K n : Nat) (H : NodeC w0 K n) (σ : Rd) (hl : σ.left.headD 0 = 91) (hb : σ.begun + 1 ≤ 120) (w : World) (hs : Small (n + 1) σ ((σ.nx.tl.up 93).put (bytesNd (unhex (σ.nx.tl.ahead 93)))).2) (h : RE w0 K σ w) :
  Calls Tryz.prog 96 #[.pointer (some ⟨K + 2, 0, none⟩), .pointer (some ⟨K, 0, none⟩), .pointer (some ⟨K + 4, 0, none⟩), .pointer (some ⟨K + 6, 0, none⟩), .pointer (some ⟨K + 7, 0, none⟩), .pointer (some ⟨K + 8, 0, none⟩)] w fun e w' => e = .returned (.int .i64 ((σ.nx.tl.up 93).put (bytesNd (unhex (σ.nx.tl.ahead 93)))).1) ∧ RE w0 K ((σ.nx.tl.up 93).put (bytesNd (unhex (σ.nx.tl.ahead 93)))).2 w' ∧ Below K w w' := by
 obtain ⟨s1, s2, s3, s4, s5⟩ := hs
 have c2 := heap1 h.bg
 have f2 := frozen_of _ _ _ _ h.bg 0
 have hw : IntKind.i64.wrap ((σ.begun : Int) + 1) = (σ.begun : Int) + 1 := by simp [IntKind.wrap, IntKind.signed, IntKind.bits]; omega
 have h1 := h.nx ((σ.begun : Int) + 1) rfl
 have hB1 : Below K w (w.setCell ⟨K + 2, 0, none⟩ (.int .i64 ((σ.begun : Int) + 1))) := (only_set K (K + 2) w (by omega) _).below
 have d2 : (w.setCell ⟨K + 2, 0, none⟩ (.int .i64 ((σ.begun : Int) + 1))).cell? ⟨K + 2, 0, none⟩ = some (.int .i64 ((σ.begun : Int) + 1)) := by
  have := heap1 h1.bg
  simpa [Rd.nx] using this
 have hgt : ((120 : Int) < (σ.begun : Int) + 1) = False := by simp; omega
 have NX := next_c K σ.left _ h1.c
 have hv : (((σ.left.headD 0).toNat : Nat) : Int) = 91 := by rw [hl]; rfl
 rw [hv] at NX
 have NX1 := Lib.hid NX
 clear NX h
 go_enter Tryz.func96, Tryz.ntmps96
 go_wp2_with fail
 refine NX1.out.mono ?_
 rintro e w2 ⟨rfl, hc2, hO2⟩
 have h2 : RE w0 K σ.nx.tl w2 := h1.left hO2 hc2
 have hB2 := hB1.trans hO2.below
 clear h1 hB1 NX1 hO2 hc2 c2 f2 d2 hw hgt hv hl
 have lx : (σ.nx.tl.up 93).xs.length ≤ 1000 := by
  have : (σ.nx.tl.up 93).xs.length + 1 ≤ 1000 := by simpa [Rd.put] using s5
  omega
 have ll : σ.nx.tl.left.length < 4294967281 := by
  have := ((Goes.nx σ).trans (Goes.tl σ.nx)).l
  omega
 have hcl := (cut_len σ.nx.tl.left [93]).1
 have hul := unhex_len (σ.nx.tl.ahead 93)
 have hal : (σ.nx.tl.ahead 93).length < 4294967281 := by
  have : (σ.nx.tl.ahead 93).length ≤ σ.nx.tl.left.length := hcl
  omega
 have h2d := h2.drew
 have U : Hid (Calls Tryz.prog 98 #[.pointer (some ⟨K, 0, none⟩), .string ⟨#[93]⟩] w2.drew fun r w' => r = .returned (.string ⟨(σ.nx.tl.ahead 93).toArray⟩) ∧ Scan w' K ⟨(σ.nx.tl.up 93).left.toArray⟩ ∧ Only K K w2.drew w') :=
  Lib.hid (upto_c K K (Nat.le_refl _) ⟨σ.nx.tl.left.toArray⟩ ⟨#[93]⟩ (by simpa [ByteArray.size] using ll) w2.drew h2d.vars.max h2d.c)
 have OH := Lib.hid fun w' => ofhex_c (σ.nx.tl.ahead 93) hal w'
 have OF := Lib.hid fun w' => of_c ⟨(unhex (σ.nx.tl.ahead 93)).toArray⟩ (by simp [ByteArray.size]; omega) w'
 have e1 : ∀ w', RE w0 K ⟨(σ.nx.tl.up 93).left, σ.nx.tl.xs, σ.nx.tl.begun, σ.nx.tl.groups⟩ w' → RE w0 K (σ.nx.tl.up 93) w' := fun _ h => h
 have e2 : (unhex (σ.nx.tl.ahead 93)).length = (⟨(unhex (σ.nx.tl.ahead 93)).toArray⟩ : ByteArray).size := by simp [ByteArray.size]
 obtain ⟨f, hf⟩ : ∃ f, inS (⟨(unhex (σ.nx.tl.ahead 93)).toArray⟩ : ByteArray) (⟨(unhex (σ.nx.tl.ahead 93)).toArray⟩ : ByteArray).size = f := ⟨_, rfl⟩
 have e9 : bytesNd (unhex (σ.nx.tl.ahead 93)) = ⟨1, wd f 0, wd f 1, wd f 2, wd f 3, 0, 0, 0, 0, 0⟩ := by unfold bytesNd; rw [e2, hf]
 have E9 := Lib.hid e9
 rw [hf] at OF
 have OF1 : Hid (∀ w' : World, Calls Tryz.prog 39 #[.string ⟨(unhex (σ.nx.tl.ahead 93)).toArray⟩] w' fun e w'' => e = .returned (.agg #[.int .u64 (wd f 0), .int .u64 (wd f 1), .int .u64 (wd f 2), .int .u64 (wd f 3)]) ∧ Below w'.heap.size w' w'') := OF
 clear hcl hul hal ll s5 e2 e9 hf OF
 go_wp2_with fail
 refine wp_region_noPanic ?_
 refine wp_region_held_drew (S := fun w' => w'.cell? ⟨K + 4, 0, none⟩ = some (.func (.func 90) #[] #[.pointer (some ⟨K + 1, 0, none⟩)]) ∧ w'.cell? ⟨K + 5, 0, none⟩ = some (.func (.func 96) #[] #[.pointer (some ⟨K + 2, 0, none⟩), .pointer (some ⟨K, 0, none⟩), .pointer (some ⟨K + 4, 0, none⟩), .pointer (some ⟨K + 6, 0, none⟩), .pointer (some ⟨K + 7, 0, none⟩), .pointer (some ⟨K + 8, 0, none⟩)])) (by kernel_rfl) ?_ (fun hHeld => ?_)
 ·(try dsimp only); exact ⟨heap1 h2.f4, heap1 h2.f5⟩
 refine wpAnyH_take (i := 0) (v := ?_) rfl (by kernel_rfl) (by kernel_rfl) (by kernel_rfl) (fun _ _ _ h => h) (Or.inl ⟨by kernel_rfl, ?_⟩) (by assumption) ?_
 rotate_left
 ·(intro w hSw; (try dsimp only at hSw); go_simp); (try with_reducible rfl)
 try simp only [Act.put, laS]
 refine wpAnyH_ready (rs := [1]) (by kernel_rfl) (by simp) ?_
 refine AllReadyH.cons rfl (fun KK hK => ?_) ?_
 rotate_left
 ·exact AllReadyH.nil
 go_simp
 refine U.out.mono ?_
 rintro e w3 ⟨rfl, hc3, hO3⟩
 have h3 := e1 w3 (h2d.left hO3 hc3)
 have hB3 := hB2.drew.trans hO3.below
 clear U hO3 hc3 e1
 refine hK.out _ _ ?_ (fun hHeld => ?_)
 ·(try dsimp only); exact ⟨heap1 h3.f4, heap1 h3.f5⟩
 clear hK KK
 try simp only [Act.put, laS]
 refine wpAnyH_ready (rs := [2]) (by kernel_rfl) (by simp) ?_
 refine AllReadyH.cons rfl (fun KK hK => ?_) ?_
 rotate_left
 ·exact AllReadyH.nil
 go_simp
 refine (OH.out w3).mono ?_
 rintro e w4 ⟨rfl, hb4⟩
 have h4 := h3.below hb4
 have hB4 := hB3.trans (hb4.mono (by have := h3.size; omega))
 clear hb4 OH
 refine hK.out _ _ ?_ (fun hHeld => ?_)
 ·(try dsimp only); exact ⟨heap1 h4.f4, heap1 h4.f5⟩
 clear hK KK
 try simp only [Act.put, laS]
 refine wpAnyH_ready (rs := [3]) (by kernel_rfl) (by simp) ?_
 refine AllReadyH.cons rfl (fun KK hK => ?_) ?_
 rotate_left
 ·exact AllReadyH.nil
 go_simp
 refine (OF1.out w4).mono ?_
 rintro e w5 ⟨rfl, hb5⟩
 have h5 := h4.below hb5
 have hB5 := hB4.trans (hb5.mono (by have := h4.size; omega))
 clear hb5 OF1
 refine hK.out _ _ ?_ (fun hHeld => ?_)
 ·(try dsimp only); exact ⟨heap1 h5.f4, heap1 h5.f5⟩
 clear hK KK
 try simp only [Act.put, laS]
 refine wpAnyH_take (i := 4) (v := ?_) rfl (by kernel_rfl) (by kernel_rfl) (by kernel_rfl) (fun _ _ _ h => h) (Or.inl ⟨by kernel_rfl, ?_⟩) (by assumption) ?_
 rotate_left
 ·(intro w hSw; (try dsimp only at hSw); go_simp); (try with_reducible rfl)
 try simp only [Act.put, laS]
 refine wpAnyH_ready (rs := [5]) (by kernel_rfl) (by simp) ?_
 refine AllReadyH.cons rfl (fun KK hK => ?_) ?_
 rotate_left
 ·exact AllReadyH.nil
 go_simp
 refine (put_c w0 K (σ.nx.tl.up 93) ⟨1, wd f 0, wd f 1, wd f 2, wd f 3, 0, 0, 0, 0, 0⟩ w5 h5 lx).mono ?_
 rintro e w6 ⟨rfl, h6, hB6⟩
 refine hK.out _ _ ?_ (fun hHeld => ?_)
 ·(try dsimp only); exact ⟨heap1 h6.f4, heap1 h6.f5⟩
 clear hK KK
 try simp only [Act.put, laS]
 refine wpAnyH_take (i := 6) (v := ?_) rfl (by kernel_rfl) (by kernel_rfl) (by kernel_rfl) (fun _ _ _ h => h) (Or.inl ⟨by kernel_rfl, ?_⟩) (by assumption) ?_
 rotate_left
 ·(intro w hSw; (try dsimp only at hSw); go_simp); (try with_reducible rfl)
 try simp only [Act.put, laS]
 refine wpAnyH_done (by kernel_rfl) ?_ _
 refine NoPanic.normal ?_
 rw [← E9.out] at h6
 go_wp2
 go_ret
 exact ⟨rfl, h6, hB5.trans hB6⟩
end Go.Proofs.YtgllmhheahlpjaaGreatDoor
namespace Go.Proofs.YtgllmhheahlpjaaGreatDoor
open Go.RowKit Go.Lib
theorem node_e (w0 : World) (K n : Nat) (H : NodeC w0 K n) (σ : Rd) (hl : σ.left.headD 0 = 101) (hb : σ.begun + 1 ≤ 120) (w : World) (hs : Small (n + 1) σ (σ.nx.tl.put ⟨0, 0, 0, 0, 0, 0, 0, 0, 0, 0⟩).2) (h : RE w0 K σ w) :
  Calls Tryz.prog 96 #[.pointer (some ⟨K + 2, 0, none⟩), .pointer (some ⟨K, 0, none⟩), .pointer (some ⟨K + 4, 0, none⟩), .pointer (some ⟨K + 6, 0, none⟩), .pointer (some ⟨K + 7, 0, none⟩), .pointer (some ⟨K + 8, 0, none⟩)] w fun e w' => e = .returned (.int .i64 (σ.nx.tl.put ⟨0, 0, 0, 0, 0, 0, 0, 0, 0, 0⟩).1) ∧ RE w0 K (σ.nx.tl.put ⟨0, 0, 0, 0, 0, 0, 0, 0, 0, 0⟩).2 w' ∧ Below K w w' := by
 obtain ⟨s1, s2, s3, s4, s5⟩ := hs
 have c2 := heap1 h.bg
 have f2 := frozen_of _ _ _ _ h.bg 0
 have hw : IntKind.i64.wrap ((σ.begun : Int) + 1) = (σ.begun : Int) + 1 := by simp [IntKind.wrap, IntKind.signed, IntKind.bits]; omega
 have h1 := h.nx ((σ.begun : Int) + 1) rfl
 have hB1 : Below K w (w.setCell ⟨K + 2, 0, none⟩ (.int .i64 ((σ.begun : Int) + 1))) := (only_set K (K + 2) w (by omega) _).below
 have d2 : (w.setCell ⟨K + 2, 0, none⟩ (.int .i64 ((σ.begun : Int) + 1))).cell? ⟨K + 2, 0, none⟩ = some (.int .i64 ((σ.begun : Int) + 1)) := by
  have := heap1 h1.bg
  simpa [Rd.nx] using this
 have hgt : ((120 : Int) < (σ.begun : Int) + 1) = False := by simp; omega
 have NX := next_c K σ.left _ h1.c
 have hv : (((σ.left.headD 0).toNat : Nat) : Int) = 101 := by rw [hl]; rfl
 rw [hv] at NX
 have NX1 := Lib.hid NX
 clear NX h
 go_enter Tryz.func96, Tryz.ntmps96
 go_wp2_with fail
 refine NX1.out.mono ?_
 rintro e w2 ⟨rfl, hc2, hO2⟩
 have h2 : RE w0 K σ.nx.tl w2 := h1.left hO2 hc2
 have hB2 := hB1.trans hO2.below
 clear h1 hB1 NX1 hO2 hc2 c2 f2 d2 hw hgt hv hl
 have lx : σ.nx.tl.xs.length ≤ 1000 := by
  have : σ.nx.tl.xs.length + 1 ≤ 1000 := by simpa [Rd.put] using s5
  omega
 have c4 := heap1 h2.f4
 have f4 := frozen_of _ _ _ _ h2.f4 0
 have P := Lib.hid (put_c w0 K σ.nx.tl ⟨0, 0, 0, 0, 0, 0, 0, 0, 0, 0⟩ w2 h2 lx)
 clear h2
 go_wp2_with fail
 refine P.out.mono ?_
 rintro e w3 ⟨rfl, h3, hB3⟩
 go_wp2
 go_ret
 exact ⟨rfl, h3, hB2.trans hB3⟩
theorem node_b (w0 : World) (K n : Nat) (H : NodeC w0 K n) (σ : Rd) (hl : σ.left.headD 0 = 94) (hb : σ.begun + 1 ≤ 120) (w : World) (hs : Small (n + 1) σ (σ.nx.tl.put ⟨2, 0, 0, 0, 0, 0, 0, 0, 0, 0⟩).2) (h : RE w0 K σ w) :
  Calls Tryz.prog 96 #[.pointer (some ⟨K + 2, 0, none⟩), .pointer (some ⟨K, 0, none⟩), .pointer (some ⟨K + 4, 0, none⟩), .pointer (some ⟨K + 6, 0, none⟩), .pointer (some ⟨K + 7, 0, none⟩), .pointer (some ⟨K + 8, 0, none⟩)] w fun e w' => e = .returned (.int .i64 (σ.nx.tl.put ⟨2, 0, 0, 0, 0, 0, 0, 0, 0, 0⟩).1) ∧ RE w0 K (σ.nx.tl.put ⟨2, 0, 0, 0, 0, 0, 0, 0, 0, 0⟩).2 w' ∧ Below K w w' := by
 obtain ⟨s1, s2, s3, s4, s5⟩ := hs
 have c2 := heap1 h.bg
 have f2 := frozen_of _ _ _ _ h.bg 0
 have hw : IntKind.i64.wrap ((σ.begun : Int) + 1) = (σ.begun : Int) + 1 := by simp [IntKind.wrap, IntKind.signed, IntKind.bits]; omega
 have h1 := h.nx ((σ.begun : Int) + 1) rfl
 have hB1 : Below K w (w.setCell ⟨K + 2, 0, none⟩ (.int .i64 ((σ.begun : Int) + 1))) := (only_set K (K + 2) w (by omega) _).below
 have d2 : (w.setCell ⟨K + 2, 0, none⟩ (.int .i64 ((σ.begun : Int) + 1))).cell? ⟨K + 2, 0, none⟩ = some (.int .i64 ((σ.begun : Int) + 1)) := by
  have := heap1 h1.bg
  simpa [Rd.nx] using this
 have hgt : ((120 : Int) < (σ.begun : Int) + 1) = False := by simp; omega
 have NX := next_c K σ.left _ h1.c
 have hv : (((σ.left.headD 0).toNat : Nat) : Int) = 94 := by rw [hl]; rfl
 rw [hv] at NX
 have NX1 := Lib.hid NX
 clear NX h
 go_enter Tryz.func96, Tryz.ntmps96
 go_wp2_with fail
 refine NX1.out.mono ?_
 rintro e w2 ⟨rfl, hc2, hO2⟩
 have h2 : RE w0 K σ.nx.tl w2 := h1.left hO2 hc2
 have hB2 := hB1.trans hO2.below
 clear h1 hB1 NX1 hO2 hc2 c2 f2 d2 hw hgt hv hl
 have lx : σ.nx.tl.xs.length ≤ 1000 := by
  have : σ.nx.tl.xs.length + 1 ≤ 1000 := by simpa [Rd.put] using s5
  omega
 have c4 := heap1 h2.f4
 have f4 := frozen_of _ _ _ _ h2.f4 0
 have P := Lib.hid (put_c w0 K σ.nx.tl ⟨2, 0, 0, 0, 0, 0, 0, 0, 0, 0⟩ w2 h2 lx)
 clear h2
 go_wp2_with fail
 refine P.out.mono ?_
 rintro e w3 ⟨rfl, h3, hB3⟩
 go_wp2
 go_ret
 exact ⟨rfl, h3, hB2.trans hB3⟩
theorem node_d (w0 : World) (K n : Nat) (H : NodeC w0 K n) (σ : Rd) (hl : σ.left.headD 0 = 36) (hb : σ.begun + 1 ≤ 120) (w : World) (hs : Small (n + 1) σ (σ.nx.tl.put ⟨3, 0, 0, 0, 0, 0, 0, 0, 0, 0⟩).2) (h : RE w0 K σ w) :
  Calls Tryz.prog 96 #[.pointer (some ⟨K + 2, 0, none⟩), .pointer (some ⟨K, 0, none⟩), .pointer (some ⟨K + 4, 0, none⟩), .pointer (some ⟨K + 6, 0, none⟩), .pointer (some ⟨K + 7, 0, none⟩), .pointer (some ⟨K + 8, 0, none⟩)] w fun e w' => e = .returned (.int .i64 (σ.nx.tl.put ⟨3, 0, 0, 0, 0, 0, 0, 0, 0, 0⟩).1) ∧ RE w0 K (σ.nx.tl.put ⟨3, 0, 0, 0, 0, 0, 0, 0, 0, 0⟩).2 w' ∧ Below K w w' := by
 obtain ⟨s1, s2, s3, s4, s5⟩ := hs
 have c2 := heap1 h.bg
 have f2 := frozen_of _ _ _ _ h.bg 0
 have hw : IntKind.i64.wrap ((σ.begun : Int) + 1) = (σ.begun : Int) + 1 := by simp [IntKind.wrap, IntKind.signed, IntKind.bits]; omega
 have h1 := h.nx ((σ.begun : Int) + 1) rfl
 have hB1 : Below K w (w.setCell ⟨K + 2, 0, none⟩ (.int .i64 ((σ.begun : Int) + 1))) := (only_set K (K + 2) w (by omega) _).below
 have d2 : (w.setCell ⟨K + 2, 0, none⟩ (.int .i64 ((σ.begun : Int) + 1))).cell? ⟨K + 2, 0, none⟩ = some (.int .i64 ((σ.begun : Int) + 1)) := by
  have := heap1 h1.bg
  simpa [Rd.nx] using this
 have hgt : ((120 : Int) < (σ.begun : Int) + 1) = False := by simp; omega
 have NX := next_c K σ.left _ h1.c
 have hv : (((σ.left.headD 0).toNat : Nat) : Int) = 36 := by rw [hl]; rfl
 rw [hv] at NX
 have NX1 := Lib.hid NX
 clear NX h
 go_enter Tryz.func96, Tryz.ntmps96
 go_wp2_with fail
 refine NX1.out.mono ?_
 rintro e w2 ⟨rfl, hc2, hO2⟩
 have h2 : RE w0 K σ.nx.tl w2 := h1.left hO2 hc2
 have hB2 := hB1.trans hO2.below
 clear h1 hB1 NX1 hO2 hc2 c2 f2 d2 hw hgt hv hl
 have lx : σ.nx.tl.xs.length ≤ 1000 := by
  have : σ.nx.tl.xs.length + 1 ≤ 1000 := by simpa [Rd.put] using s5
  omega
 have c4 := heap1 h2.f4
 have f4 := frozen_of _ _ _ _ h2.f4 0
 have P := Lib.hid (put_c w0 K σ.nx.tl ⟨3, 0, 0, 0, 0, 0, 0, 0, 0, 0⟩ w2 h2 lx)
 clear h2
 go_wp2_with fail
 refine P.out.mono ?_
 rintro e w3 ⟨rfl, h3, hB3⟩
 go_wp2
 go_ret
 exact ⟨rfl, h3, hB2.trans hB3⟩
theorem node_c (w0 : World) (K n : Nat) (H : NodeC w0 K n) (σ : Rd) (hl : σ.left.headD 0 = 38) (hb : σ.begun + 1 ≤ 120) (w : World) (hs : Small (n + 1) σ (rdTwo (rd n) 4 σ.nx.tl).2) (h : RE w0 K σ w) :
  Calls Tryz.prog 96 #[.pointer (some ⟨K + 2, 0, none⟩), .pointer (some ⟨K, 0, none⟩), .pointer (some ⟨K + 4, 0, none⟩), .pointer (some ⟨K + 6, 0, none⟩), .pointer (some ⟨K + 7, 0, none⟩), .pointer (some ⟨K + 8, 0, none⟩)] w fun e w' => e = .returned (.int .i64 (rdTwo (rd n) 4 σ.nx.tl).1) ∧ RE w0 K (rdTwo (rd n) 4 σ.nx.tl).2 w' ∧ Below K w w' := by
 obtain ⟨s1, s2, s3, s4, s5⟩ := hs
 have c2 := heap1 h.bg
 have f2 := frozen_of _ _ _ _ h.bg 0
 have hw : IntKind.i64.wrap ((σ.begun : Int) + 1) = (σ.begun : Int) + 1 := by simp [IntKind.wrap, IntKind.signed, IntKind.bits]; omega
 have h1 := h.nx ((σ.begun : Int) + 1) rfl
 have hB1 : Below K w (w.setCell ⟨K + 2, 0, none⟩ (.int .i64 ((σ.begun : Int) + 1))) := (only_set K (K + 2) w (by omega) _).below
 have d2 : (w.setCell ⟨K + 2, 0, none⟩ (.int .i64 ((σ.begun : Int) + 1))).cell? ⟨K + 2, 0, none⟩ = some (.int .i64 ((σ.begun : Int) + 1)) := by
  have := heap1 h1.bg
  simpa [Rd.nx] using this
 have hgt : ((120 : Int) < (σ.begun : Int) + 1) = False := by simp; omega
 have NX := next_c K σ.left _ h1.c
 have hv : (((σ.left.headD 0).toNat : Nat) : Int) = 38 := by rw [hl]; rfl
 rw [hv] at NX
 have NX1 := Lib.hid NX
 clear NX h
 go_enter Tryz.func96, Tryz.ntmps96
 go_wp2_with fail
 refine NX1.out.mono ?_
 rintro e w2 ⟨rfl, hc2, hO2⟩
 have h2 : RE w0 K σ.nx.tl w2 := h1.left hO2 hc2
 have hB2 := hB1.trans hO2.below
 clear h1 hB1 NX1 hO2 hc2 c2 f2 d2 hw hgt hv hl
 have ll := ((Goes.nx σ).trans (Goes.tl σ.nx)).l
 have P := Lib.hid (two_c w0 K n H 4 σ.nx.tl w2 ⟨by show 120 ≤ σ.begun + 1 + n; omega, by omega, s3, s4, s5⟩ h2)
 have c6 := heap1 h2.f6
 have f6 := frozen_of _ _ _ _ h2.f6 0
 clear h2 ll
 go_wp2_with fail
 refine P.out.mono ?_
 rintro e w3 ⟨rfl, h3, hB3⟩
 go_wp2
 go_ret
 exact ⟨rfl, h3, hB2.trans hB3⟩
theorem node_a (w0 : World) (K n : Nat) (H : NodeC w0 K n) (σ : Rd) (hl : σ.left.headD 0 = 124) (hb : σ.begun + 1 ≤ 120) (w : World) (hs : Small (n + 1) σ (rdTwo (rd n) 5 σ.nx.tl).2) (h : RE w0 K σ w) :
  Calls Tryz.prog 96 #[.pointer (some ⟨K + 2, 0, none⟩), .pointer (some ⟨K, 0, none⟩), .pointer (some ⟨K + 4, 0, none⟩), .pointer (some ⟨K + 6, 0, none⟩), .pointer (some ⟨K + 7, 0, none⟩), .pointer (some ⟨K + 8, 0, none⟩)] w fun e w' => e = .returned (.int .i64 (rdTwo (rd n) 5 σ.nx.tl).1) ∧ RE w0 K (rdTwo (rd n) 5 σ.nx.tl).2 w' ∧ Below K w w' := by
 obtain ⟨s1, s2, s3, s4, s5⟩ := hs
 have c2 := heap1 h.bg
 have f2 := frozen_of _ _ _ _ h.bg 0
 have hw : IntKind.i64.wrap ((σ.begun : Int) + 1) = (σ.begun : Int) + 1 := by simp [IntKind.wrap, IntKind.signed, IntKind.bits]; omega
 have h1 := h.nx ((σ.begun : Int) + 1) rfl
 have hB1 : Below K w (w.setCell ⟨K + 2, 0, none⟩ (.int .i64 ((σ.begun : Int) + 1))) := (only_set K (K + 2) w (by omega) _).below
 have d2 : (w.setCell ⟨K + 2, 0, none⟩ (.int .i64 ((σ.begun : Int) + 1))).cell? ⟨K + 2, 0, none⟩ = some (.int .i64 ((σ.begun : Int) + 1)) := by
  have := heap1 h1.bg
  simpa [Rd.nx] using this
 have hgt : ((120 : Int) < (σ.begun : Int) + 1) = False := by simp; omega
 have NX := next_c K σ.left _ h1.c
 have hv : (((σ.left.headD 0).toNat : Nat) : Int) = 124 := by rw [hl]; rfl
 rw [hv] at NX
 have NX1 := Lib.hid NX
 clear NX h
 go_enter Tryz.func96, Tryz.ntmps96
 go_wp2_with fail
 refine NX1.out.mono ?_
 rintro e w2 ⟨rfl, hc2, hO2⟩
 have h2 : RE w0 K σ.nx.tl w2 := h1.left hO2 hc2
 have hB2 := hB1.trans hO2.below
 clear h1 hB1 NX1 hO2 hc2 c2 f2 d2 hw hgt hv hl
 have ll := ((Goes.nx σ).trans (Goes.tl σ.nx)).l
 have P := Lib.hid (two_c w0 K n H 5 σ.nx.tl w2 ⟨by show 120 ≤ σ.begun + 1 + n; omega, by omega, s3, s4, s5⟩ h2)
 have c6 := heap1 h2.f6
 have f6 := frozen_of _ _ _ _ h2.f6 0
 clear h2 ll
 go_wp2_with fail
 refine P.out.mono ?_
 rintro e w3 ⟨rfl, h3, hB3⟩
 go_wp2
 go_ret
 exact ⟨rfl, h3, hB2.trans hB3⟩
theorem node_t (w0 : World) (K n : Nat) (H : NodeC w0 K n) (σ : Rd) (hl : σ.left.headD 0 = 42) (hb : σ.begun + 1 ≤ 120) (w : World) (hs : Small (n + 1) σ (rdTimes (rd n) σ.nx.tl).2) (h : RE w0 K σ w) :
  Calls Tryz.prog 96 #[.pointer (some ⟨K + 2, 0, none⟩), .pointer (some ⟨K, 0, none⟩), .pointer (some ⟨K + 4, 0, none⟩), .pointer (some ⟨K + 6, 0, none⟩), .pointer (some ⟨K + 7, 0, none⟩), .pointer (some ⟨K + 8, 0, none⟩)] w fun e w' => e = .returned (.int .i64 (rdTimes (rd n) σ.nx.tl).1) ∧ RE w0 K (rdTimes (rd n) σ.nx.tl).2 w' ∧ Below K w w' := by
 obtain ⟨s1, s2, s3, s4, s5⟩ := hs
 have c2 := heap1 h.bg
 have f2 := frozen_of _ _ _ _ h.bg 0
 have hw : IntKind.i64.wrap ((σ.begun : Int) + 1) = (σ.begun : Int) + 1 := by simp [IntKind.wrap, IntKind.signed, IntKind.bits]; omega
 have h1 := h.nx ((σ.begun : Int) + 1) rfl
 have hB1 : Below K w (w.setCell ⟨K + 2, 0, none⟩ (.int .i64 ((σ.begun : Int) + 1))) := (only_set K (K + 2) w (by omega) _).below
 have d2 : (w.setCell ⟨K + 2, 0, none⟩ (.int .i64 ((σ.begun : Int) + 1))).cell? ⟨K + 2, 0, none⟩ = some (.int .i64 ((σ.begun : Int) + 1)) := by
  have := heap1 h1.bg
  simpa [Rd.nx] using this
 have hgt : ((120 : Int) < (σ.begun : Int) + 1) = False := by simp; omega
 have NX := next_c K σ.left _ h1.c
 have hv : (((σ.left.headD 0).toNat : Nat) : Int) = 42 := by rw [hl]; rfl
 rw [hv] at NX
 have NX1 := Lib.hid NX
 clear NX h
 go_enter Tryz.func96, Tryz.ntmps96
 go_wp2_with fail
 refine NX1.out.mono ?_
 rintro e w2 ⟨rfl, hc2, hO2⟩
 have h2 : RE w0 K σ.nx.tl w2 := h1.left hO2 hc2
 have hB2 := hB1.trans hO2.below
 clear h1 hB1 NX1 hO2 hc2 c2 f2 d2 hw hgt hv hl
 have ll := ((Goes.nx σ).trans (Goes.tl σ.nx)).l
 have P := Lib.hid (times_c w0 K n H σ.nx.tl w2 ⟨by show 120 ≤ σ.begun + 1 + n; omega, by omega, s3, s4, s5⟩ h2)
 have c6 := heap1 h2.f7
 have f6 := frozen_of _ _ _ _ h2.f7 0
 clear h2 ll
 go_wp2_with fail
 refine P.out.mono ?_
 rintro e w3 ⟨rfl, h3, hB3⟩
 go_wp2
 go_ret
 exact ⟨rfl, h3, hB2.trans hB3⟩
theorem node_g (w0 : World) (K n : Nat) (H : NodeC w0 K n) (σ : Rd) (hl : σ.left.headD 0 = 40) (hb : σ.begun + 1 ≤ 120) (w : World) (hs : Small (n + 1) σ (rdGroup (rd n) σ.nx.tl).2) (h : RE w0 K σ w) :
  Calls Tryz.prog 96 #[.pointer (some ⟨K + 2, 0, none⟩), .pointer (some ⟨K, 0, none⟩), .pointer (some ⟨K + 4, 0, none⟩), .pointer (some ⟨K + 6, 0, none⟩), .pointer (some ⟨K + 7, 0, none⟩), .pointer (some ⟨K + 8, 0, none⟩)] w fun e w' => e = .returned (.int .i64 (rdGroup (rd n) σ.nx.tl).1) ∧ RE w0 K (rdGroup (rd n) σ.nx.tl).2 w' ∧ Below K w w' := by
 obtain ⟨s1, s2, s3, s4, s5⟩ := hs
 have c2 := heap1 h.bg
 have f2 := frozen_of _ _ _ _ h.bg 0
 have hw : IntKind.i64.wrap ((σ.begun : Int) + 1) = (σ.begun : Int) + 1 := by simp [IntKind.wrap, IntKind.signed, IntKind.bits]; omega
 have h1 := h.nx ((σ.begun : Int) + 1) rfl
 have hB1 : Below K w (w.setCell ⟨K + 2, 0, none⟩ (.int .i64 ((σ.begun : Int) + 1))) := (only_set K (K + 2) w (by omega) _).below
 have d2 : (w.setCell ⟨K + 2, 0, none⟩ (.int .i64 ((σ.begun : Int) + 1))).cell? ⟨K + 2, 0, none⟩ = some (.int .i64 ((σ.begun : Int) + 1)) := by
  have := heap1 h1.bg
  simpa [Rd.nx] using this
 have hgt : ((120 : Int) < (σ.begun : Int) + 1) = False := by simp; omega
 have NX := next_c K σ.left _ h1.c
 have hv : (((σ.left.headD 0).toNat : Nat) : Int) = 40 := by rw [hl]; rfl
 rw [hv] at NX
 have NX1 := Lib.hid NX
 clear NX h
 go_enter Tryz.func96, Tryz.ntmps96
 go_wp2_with fail
 refine NX1.out.mono ?_
 rintro e w2 ⟨rfl, hc2, hO2⟩
 have h2 : RE w0 K σ.nx.tl w2 := h1.left hO2 hc2
 have hB2 := hB1.trans hO2.below
 clear h1 hB1 NX1 hO2 hc2 c2 f2 d2 hw hgt hv hl
 have ll := ((Goes.nx σ).trans (Goes.tl σ.nx)).l
 have P := Lib.hid (group_c w0 K n H σ.nx.tl w2 ⟨by show 120 ≤ σ.begun + 1 + n; omega, by omega, s3, s4, s5⟩ h2)
 have c6 := heap1 h2.f8
 have f6 := frozen_of _ _ _ _ h2.f8 0
 clear h2 ll
 go_wp2_with fail
 refine P.out.mono ?_
 rintro e w3 ⟨rfl, h3, hB3⟩
 go_wp2
 go_ret
 exact ⟨rfl, h3, hB2.trans hB3⟩
theorem node_r (w0 : World) (K n : Nat) (H : NodeC w0 K n) (σ : Rd) (hl : σ.left.headD 0 = 92) (hb : σ.begun + 1 ≤ 120) (w : World) (hs : Small (n + 1) σ (σ.nx.tl.tl.put (refNd σ.nx.tl.left)).2) (h : RE w0 K σ w) :
  Calls Tryz.prog 96 #[.pointer (some ⟨K + 2, 0, none⟩), .pointer (some ⟨K, 0, none⟩), .pointer (some ⟨K + 4, 0, none⟩), .pointer (some ⟨K + 6, 0, none⟩), .pointer (some ⟨K + 7, 0, none⟩), .pointer (some ⟨K + 8, 0, none⟩)] w fun e w' => e = .returned (.int .i64 (σ.nx.tl.tl.put (refNd σ.nx.tl.left)).1) ∧ RE w0 K (σ.nx.tl.tl.put (refNd σ.nx.tl.left)).2 w' ∧ Below K w w' := by
 obtain ⟨s1, s2, s3, s4, s5⟩ := hs
 have c2 := heap1 h.bg
 have f2 := frozen_of _ _ _ _ h.bg 0
 have hw : IntKind.i64.wrap ((σ.begun : Int) + 1) = (σ.begun : Int) + 1 := by simp [IntKind.wrap, IntKind.signed, IntKind.bits]; omega
 have h1 := h.nx ((σ.begun : Int) + 1) rfl
 have hB1 : Below K w (w.setCell ⟨K + 2, 0, none⟩ (.int .i64 ((σ.begun : Int) + 1))) := (only_set K (K + 2) w (by omega) _).below
 have d2 : (w.setCell ⟨K + 2, 0, none⟩ (.int .i64 ((σ.begun : Int) + 1))).cell? ⟨K + 2, 0, none⟩ = some (.int .i64 ((σ.begun : Int) + 1)) := by
  have := heap1 h1.bg
  simpa [Rd.nx] using this
 have hgt : ((120 : Int) < (σ.begun : Int) + 1) = False := by simp; omega
 have NX := next_c K σ.left _ h1.c
 have hv : (((σ.left.headD 0).toNat : Nat) : Int) = 92 := by rw [hl]; rfl
 rw [hv] at NX
 have NX1 := Lib.hid NX
 clear NX h
 go_enter Tryz.func96, Tryz.ntmps96
 go_wp2_with fail
 refine NX1.out.mono ?_
 rintro e w2 ⟨rfl, hc2, hO2⟩
 have h2 : RE w0 K σ.nx.tl w2 := h1.left hO2 hc2
 have hB2 := hB1.trans hO2.below
 clear h1 hB1 NX1 hO2 hc2 c2 f2 d2 hw hgt hv hl
 have lx : σ.nx.tl.tl.xs.length ≤ 1000 := by
  have : σ.nx.tl.tl.xs.length + 1 ≤ 1000 := by simpa [Rd.put] using s5
  omega
 have h2d := h2.drew
 have NY := Lib.hid (next_c K σ.nx.tl.left w2.drew h2d.c)
 have hlt := (σ.nx.tl.left.headD 0).toNat_lt
 have e1 : ∀ w', RE w0 K ⟨σ.nx.tl.left.tail, σ.nx.tl.xs, σ.nx.tl.begun, σ.nx.tl.groups⟩ w' → RE w0 K σ.nx.tl.tl w' := fun _ h => h
 clear s5
 obtain ⟨c, hc⟩ : ∃ c, (σ.nx.tl.left.headD 0).toNat = c := ⟨_, rfl⟩
 rw [hc] at NY hlt
 have e9 : refNd σ.nx.tl.left = ⟨8, 0, 0, 0, 0, 0, 0, 0, 0, (c : Int) - 48⟩ := by rw [← hc]; rfl
 have E9 := Lib.hid e9
 clear e9 hc
 have hw1 : IntKind.i64.wrap (c : Int) = (c : Int) := by simp [IntKind.wrap, IntKind.signed, IntKind.bits]; omega
 have hw2 : IntKind.i64.wrap ((c : Int) - 48) = (c : Int) - 48 := by simp [IntKind.wrap, IntKind.signed, IntKind.bits]; omega
 go_wp2_with fail
 refine wp_region_noPanic ?_
 refine wp_region_held_drew (S := fun w' => w'.cell? ⟨K + 4, 0, none⟩ = some (.func (.func 90) #[] #[.pointer (some ⟨K + 1, 0, none⟩)]) ∧ w'.cell? ⟨K + 5, 0, none⟩ = some (.func (.func 96) #[] #[.pointer (some ⟨K + 2, 0, none⟩), .pointer (some ⟨K, 0, none⟩), .pointer (some ⟨K + 4, 0, none⟩), .pointer (some ⟨K + 6, 0, none⟩), .pointer (some ⟨K + 7, 0, none⟩), .pointer (some ⟨K + 8, 0, none⟩)])) (by kernel_rfl) ?_ (fun hHeld => ?_)
 ·(try dsimp only); exact ⟨heap1 h2.f4, heap1 h2.f5⟩
 refine wpAnyH_take (i := 0) (v := ?_) rfl (by kernel_rfl) (by kernel_rfl) (by kernel_rfl) (fun _ _ _ h => h) (Or.inl ⟨by kernel_rfl, ?_⟩) (by assumption) ?_
 rotate_left
 ·(intro w hSw; (try dsimp only at hSw); go_simp); (try with_reducible rfl)
 try simp only [Act.put, laS]
 refine wpAnyH_ready (rs := [1]) (by kernel_rfl) (by simp) ?_
 refine AllReadyH.cons rfl (fun KK hK => ?_) ?_
 rotate_left
 ·exact AllReadyH.nil
 go_simp
 refine NY.out.mono ?_
 rintro e w3 ⟨rfl, hc3, hO3⟩
 have h3 := e1 w3 (h2d.left hO3 hc3)
 have hB3 := hB2.drew.trans hO3.below
 clear NY hO3 hc3 e1
 refine hK.out _ _ ?_ (fun hHeld => ?_)
 ·(try dsimp only); exact ⟨heap1 h3.f4, heap1 h3.f5⟩
 clear hK KK
 try simp only [Act.put, laS]
 refine wpAnyH_take (i := 2) (v := ?_) rfl (by kernel_rfl) (by kernel_rfl) (by kernel_rfl) (fun _ _ _ h => h) (Or.inl ⟨by kernel_rfl, ?_⟩) (by assumption) ?_
 rotate_left
 ·(intro w hSw; (try dsimp only at hSw); go_simp); (try with_reducible rfl)
 try simp only [Act.put, laS]
 refine wpAnyH_take (i := 3) (v := ?_) rfl (by kernel_rfl) (by kernel_rfl) (by kernel_rfl) (fun _ _ _ h => h) (Or.inl ⟨by kernel_rfl, ?_⟩) (by assumption) ?_
 rotate_left
 ·(intro w hSw; (try dsimp only at hSw); go_simp); (try with_reducible rfl)
 try simp only [Act.put, laS]
 refine wpAnyH_take (i := 4) (v := ?_) rfl (by kernel_rfl) (by kernel_rfl) (by kernel_rfl) (fun _ _ _ h => h) (Or.inl ⟨by kernel_rfl, ?_⟩) (by assumption) ?_
 rotate_left
 ·(intro w hSw; (try dsimp only at hSw); go_simp); (try with_reducible rfl)
 try simp only [Act.put, laS]
 refine wpAnyH_ready (rs := [5]) (by kernel_rfl) (by simp) ?_
 refine AllReadyH.cons rfl (fun KK hK => ?_) ?_
 rotate_left
 ·exact AllReadyH.nil
 go_simp
 refine (put_c w0 K σ.nx.tl.tl ⟨8, 0, 0, 0, 0, 0, 0, 0, 0, (c : Int) - 48⟩ w3 h3 lx).mono ?_
 rintro e w4 ⟨rfl, h4, hB4⟩
 refine hK.out _ _ ?_ (fun hHeld => ?_)
 ·(try dsimp only); exact ⟨heap1 h4.f4, heap1 h4.f5⟩
 clear hK KK
 try simp only [Act.put, laS]
 refine wpAnyH_take (i := 6) (v := ?_) rfl (by kernel_rfl) (by kernel_rfl) (by kernel_rfl) (fun _ _ _ h => h) (Or.inl ⟨by kernel_rfl, ?_⟩) (by assumption) ?_
 rotate_left
 ·(intro w hSw; (try dsimp only at hSw); go_simp); (try with_reducible rfl)
 try simp only [Act.put, laS]
 refine wpAnyH_done (by kernel_rfl) ?_ _
 refine NoPanic.normal ?_
 rw [← E9.out] at h4
 go_wp2
 go_ret
 exact ⟨rfl, h4, hB3.trans hB4⟩
theorem node_o (w0 : World) (K n : Nat) (H : NodeC w0 K n) (σ : Rd) (hl : ((σ.left.headD 0).toNat : Int) ≠ 101 ∧ ((σ.left.headD 0).toNat : Int) ≠ 91 ∧ ((σ.left.headD 0).toNat : Int) ≠ 94 ∧ ((σ.left.headD 0).toNat : Int) ≠ 36 ∧ ((σ.left.headD 0).toNat : Int) ≠ 38 ∧ ((σ.left.headD 0).toNat : Int) ≠ 124 ∧ ((σ.left.headD 0).toNat : Int) ≠ 42 ∧ ((σ.left.headD 0).toNat : Int) ≠ 40 ∧ ((σ.left.headD 0).toNat : Int) ≠ 92) (hb : σ.begun + 1 ≤ 120) (w : World) (hs : Small (n + 1) σ (((0 : Int), σ.nx.tl)).2) (h : RE w0 K σ w) :
  Calls Tryz.prog 96 #[.pointer (some ⟨K + 2, 0, none⟩), .pointer (some ⟨K, 0, none⟩), .pointer (some ⟨K + 4, 0, none⟩), .pointer (some ⟨K + 6, 0, none⟩), .pointer (some ⟨K + 7, 0, none⟩), .pointer (some ⟨K + 8, 0, none⟩)] w fun e w' => e = .returned (.int .i64 (((0 : Int), σ.nx.tl)).1) ∧ RE w0 K (((0 : Int), σ.nx.tl)).2 w' ∧ Below K w w' := by
 obtain ⟨s1, s2, s3, s4, s5⟩ := hs
 have c2 := heap1 h.bg
 have f2 := frozen_of _ _ _ _ h.bg 0
 have hw : IntKind.i64.wrap ((σ.begun : Int) + 1) = (σ.begun : Int) + 1 := by simp [IntKind.wrap, IntKind.signed, IntKind.bits]; omega
 have h1 := h.nx ((σ.begun : Int) + 1) rfl
 have hB1 : Below K w (w.setCell ⟨K + 2, 0, none⟩ (.int .i64 ((σ.begun : Int) + 1))) := (only_set K (K + 2) w (by omega) _).below
 have d2 : (w.setCell ⟨K + 2, 0, none⟩ (.int .i64 ((σ.begun : Int) + 1))).cell? ⟨K + 2, 0, none⟩ = some (.int .i64 ((σ.begun : Int) + 1)) := by
  have := heap1 h1.bg
  simpa [Rd.nx] using this
 have hgt : ((120 : Int) < (σ.begun : Int) + 1) = False := by simp; omega
 have NX := next_c K σ.left _ h1.c
 have NX1 := Lib.hid NX
 clear NX h
 obtain ⟨q1, q2, q3, q4, q5, q6, q7, q8, q9⟩ := hl
 have r1 : (((σ.left.headD 0).toNat : Int) == 101) = false := by simpa using q1
 have r2 : (((σ.left.headD 0).toNat : Int) == 91) = false := by simpa using q2
 have r3 : (((σ.left.headD 0).toNat : Int) == 94) = false := by simpa using q3
 have r4 : (((σ.left.headD 0).toNat : Int) == 36) = false := by simpa using q4
 have r5 : (((σ.left.headD 0).toNat : Int) == 38) = false := by simpa using q5
 have r6 : (((σ.left.headD 0).toNat : Int) == 124) = false := by simpa using q6
 have r7 : (((σ.left.headD 0).toNat : Int) == 42) = false := by simpa using q7
 have r8 : (((σ.left.headD 0).toNat : Int) == 40) = false := by simpa using q8
 have r9 : (((σ.left.headD 0).toNat : Int) == 92) = false := by simpa using q9
 clear q1 q2 q3 q4 q5 q6 q7 q8 q9
 generalize ((σ.left.headD 0).toNat : Int) = c at *
 go_enter Tryz.func96, Tryz.ntmps96
 go_wp2_with fail
 refine NX1.out.mono ?_
 rintro e w2 ⟨rfl, hc2, hO2⟩
 have h2 : RE w0 K σ.nx.tl w2 := h1.left hO2 hc2
 have hB2 := hB1.trans hO2.below
 clear h1 hB1 NX1 hO2 hc2 c2 f2 d2 hw hgt
 go_wp2
 go_ret
 exact ⟨rfl, h2, hB2⟩
theorem node_deep (w0 : World) (K : Nat) (σ : Rd) (hb : 120 ≤ σ.begun) (hb2 : σ.begun ≤ 1000) (w : World) (h : RE w0 K σ w) :
  Calls Tryz.prog 96 #[.pointer (some ⟨K + 2, 0, none⟩), .pointer (some ⟨K, 0, none⟩), .pointer (some ⟨K + 4, 0, none⟩), .pointer (some ⟨K + 6, 0, none⟩), .pointer (some ⟨K + 7, 0, none⟩), .pointer (some ⟨K + 8, 0, none⟩)] w fun e w' => e = .returned (.int .i64 0) ∧ RE w0 K σ.nx w' ∧ Below K w w' := by
 have c2 := heap1 h.bg
 have f2 := frozen_of _ _ _ _ h.bg 0
 have hw : IntKind.i64.wrap ((σ.begun : Int) + 1) = (σ.begun : Int) + 1 := by simp [IntKind.wrap, IntKind.signed, IntKind.bits]; omega
 have h1 := h.nx ((σ.begun : Int) + 1) rfl
 have hB1 : Below K w (w.setCell ⟨K + 2, 0, none⟩ (.int .i64 ((σ.begun : Int) + 1))) := (only_set K (K + 2) w (by omega) _).below
 have d2 : (w.setCell ⟨K + 2, 0, none⟩ (.int .i64 ((σ.begun : Int) + 1))).cell? ⟨K + 2, 0, none⟩ = some (.int .i64 ((σ.begun : Int) + 1)) := by
  have := heap1 h1.bg
  simpa [Rd.nx] using this
 have hgt : ((120 : Int) < (σ.begun : Int) + 1) = True := by simp; omega
 clear h
 go_enter Tryz.func96, Tryz.ntmps96
 go_wp2
 go_ret
 exact ⟨rfl, h1, hB1⟩
theorem node_all (w0 : World) (K : Nat) : ∀ n, NodeC w0 K n
 | 0, σ, w, hs, h => by
  have hb : σ.begun + 1 ≤ 1000 := hs.b
  exact node_deep w0 K σ (by have := hs.f; omega) (by omega) w h
 | n + 1, σ, w, hs, h => by
  have ih := node_all w0 K n
  by_cases hb : 120 < σ.begun + 1
  ·have e : rd (n + 1) σ = (0, σ.nx) := by rw [rd, if_pos hb]
   have hb2 : σ.begun + 1 ≤ 1000 := by have := hs.b; rw [e] at this; exact this
   rw [e]
   exact node_deep w0 K σ (by omega) (by omega) w h
  ·have hb1 : σ.begun + 1 ≤ 120 := by omega
   cases hl : σ.left with
   | nil =>
    have e : rd (n + 1) σ = ((0 : Int), σ.nx.tl) := by
     have e1 : σ.nx.tl = σ.nx := by simp [Rd.tl, Rd.nx, hl]
     rw [rd, if_neg hb, hl, e1]
    rw [e] at hs ⊢
    exact node_o w0 K n ih σ (by rw [hl]; simp) hb1 w hs h
   | cons c l =>
    have e : rd (n + 1) σ = rdNode (rd n) c σ.nx.tl := by rw [rd, if_neg hb, hl]
    rw [e] at hs ⊢
    have hh : σ.left.headD 0 = c := by rw [hl]; rfl
    by_cases k1 : c = 101
    ·subst k1
     exact node_e w0 K n ih σ hh hb1 w hs h
    by_cases k2 : c = 91
    ·subst k2
     exact node_s w0 K n ih σ hh hb1 w hs h
    by_cases k3 : c = 94
    ·subst k3
     exact node_b w0 K n ih σ hh hb1 w hs h
    by_cases k4 : c = 36
    ·subst k4
     exact node_d w0 K n ih σ hh hb1 w hs h
    by_cases k5 : c = 38
    ·subst k5
     exact node_c w0 K n ih σ hh hb1 w hs h
    by_cases k6 : c = 124
    ·subst k6
     exact node_a w0 K n ih σ hh hb1 w hs h
    by_cases k7 : c = 42
    ·subst k7
     exact node_t w0 K n ih σ hh hb1 w hs h
    by_cases k8 : c = 40
    ·subst k8
     exact node_g w0 K n ih σ hh hb1 w hs h
    by_cases k9 : c = 92
    ·subst k9
     exact node_r w0 K n ih σ hh hb1 w hs h
    have e2 : rdNode (rd n) c σ.nx.tl = ((0 : Int), σ.nx.tl) := by
     unfold rdNode
     rw [if_neg k1, if_neg k2, if_neg k3, if_neg k4, if_neg k5, if_neg k6, if_neg k7, if_neg k8, if_neg k9]
    rw [e2] at hs ⊢
    have ne : ∀ v : UInt8, c ≠ v → (c.toNat : Int) ≠ (v.toNat : Int) := fun v hv e => hv (UInt8.toNat_inj.1 (by omega))
    exact node_o w0 K n ih σ (by rw [hh]; exact ⟨ne 101 k1, ne 91 k2, ne 94 k3, ne 36 k4, ne 38 k5, ne 124 k6, ne 42 k7, ne 40 k8, ne 92 k9⟩) hb1 w hs h
end Go.Proofs.YtgllmhheahlpjaaGreatDoor
