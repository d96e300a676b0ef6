/- read's closure node at a Bytes. -/
import Derived.Test.YtjgegohidhdbpaaGreatDoorJRxTn
open Go.Proofs.Tryz
set_option linter.unusedVariables false
set_option linter.unusedSimpArgs false
set_option maxRecDepth 100000
set_option maxHeartbeats 40000000
namespace Go.Proofs.YtjgegohidhdbpaaGreatDoor
open Go.RowKit Go.Lib
theorem qia (w0 : World) (K n : Nat) (H : ye w0 K n) (σ : Rd) (hl : σ.left.headD 0 = 91) (hb : σ.begun + 1 ≤ 120) (w : World) (hs : Small (n + 1) σ ((σ.nx.tl.up 93).put (kj (unhex (σ.nx.tl.ahead 93)))).2) (h : RE w0 K σ w) :
  Calls prog 84 #[.pointer (some ⟨K + 2, 0, none⟩), .pointer (some ⟨K, 0, none⟩), .pointer (some ⟨K + 4, 0, none⟩), .pointer (some ⟨K + 6, 0, none⟩), .pointer (some ⟨K + 7, 0, none⟩), .pointer (some ⟨K + 8, 0, none⟩)] w fun e w' => e = .returned (.int .i64 ((σ.nx.tl.up 93).put (kj (unhex (σ.nx.tl.ahead 93)))).1) ∧ RE w0 K ((σ.nx.tl.up 93).put (kj (unhex (σ.nx.tl.ahead 93)))).2 w' ∧ Below K w w' := by
 obtain ⟨s1, s2, s3, s4, s5⟩ := hs
 have c2 := qG h.bg
 have f2 := qD _ _ _ _ h.bg 0
 have hw : IntKind.i64.wrap ((σ.begun : Int) + 1) = (σ.begun : Int) + 1 := by simp [IntKind.wrap, IntKind.signed, IntKind.bits]; omega
 have h1 := h.nx ((σ.begun : Int) + 1) rfl
 have qr : Below K w (w.setCell ⟨K + 2, 0, none⟩ (.int .i64 ((σ.begun : Int) + 1))) := (zD K (K + 2) w (by omega) _).below
 have d2 : (w.setCell ⟨K + 2, 0, none⟩ (.int .i64 ((σ.begun : Int) + 1))).cell? ⟨K + 2, 0, none⟩ = some (.int .i64 ((σ.begun : Int) + 1)) := by
  have := qG h1.bg
  simpa [Rd.nx] using this
 have VF : ((120 : Int) < (σ.begun : Int) + 1) = False := by simp; omega
 have NX := vo K σ.left _ h1.c
 have hv : (((σ.left.headD 0).toNat : Nat) : Int) = 91 := by rw [hl]; rfl
 rw [hv] at NX
 have NX1 := ξ NX
 clear NX h
 go_enter func84, ntmps84
 go_wp2_with fail
 refine NX1.out.mono ?_
 rintro e w2 ⟨rfl, vI, vX⟩
 have h2 : RE w0 K σ.nx.tl w2 := h1.left vX vI
 have zj := qr.trans vX.below
 clear h1 qr NX1 vX vI c2 f2 d2 hw VF hv hl
 have lx : (σ.nx.tl.up 93).xs.length ≤ 1000 := by
  have : (σ.nx.tl.up 93).xs.length + 1 ≤ 1000 := by simpa [Rd.put] using s5
  omega
 have ll : σ.nx.tl.left.length < 4294967281 := by
  have := ((Goes.nx σ).trans (Goes.tl σ.nx)).l
  omega
 have hcl := (GX σ.nx.tl.left [93]).1
 have hul := V1 (σ.nx.tl.ahead 93)
 have hal : (σ.nx.tl.ahead 93).length < 4294967281 := by
  have : (σ.nx.tl.ahead 93).length ≤ σ.nx.tl.left.length := hcl
  omega
 have h2d := h2.drew
 have U : Hid (Calls prog 87 #[.pointer (some ⟨K, 0, none⟩), .string ⟨#[93]⟩] w2.drew fun r w' => r = .returned (.string ⟨(σ.nx.tl.ahead 93).toArray⟩) ∧ jF w' K ⟨(σ.nx.tl.up 93).left.toArray⟩ ∧ Only K K w2.drew w') :=
  ξ (qco K K (Nat.le_refl _) ⟨σ.nx.tl.left.toArray⟩ ⟨#[93]⟩ (by simpa [ByteArray.size] using ll) w2.drew h2d.vars.max h2d.c)
 have OH := ξ fun w' => qfF (σ.nx.tl.ahead 93) hal w'
 have OF := ξ fun w' => of_c ⟨(unhex (σ.nx.tl.ahead 93)).toArray⟩ (by simp [ByteArray.size]; omega) w'
 have e1 : ∀ w', RE w0 K ⟨(σ.nx.tl.up 93).left, σ.nx.tl.xs, σ.nx.tl.begun, σ.nx.tl.groups⟩ w' → RE w0 K (σ.nx.tl.up 93) w' := fun _ h => h
 have e2 : (unhex (σ.nx.tl.ahead 93)).length = (⟨(unhex (σ.nx.tl.ahead 93)).toArray⟩ : ByteArray).size := by simp [ByteArray.size]
 obtain ⟨f, hf⟩ : ∃ f, Uq (⟨(unhex (σ.nx.tl.ahead 93)).toArray⟩ : ByteArray) (⟨(unhex (σ.nx.tl.ahead 93)).toArray⟩ : ByteArray).size = f := ⟨_, rfl⟩
 have e9 : kj (unhex (σ.nx.tl.ahead 93)) = ⟨1, wd f 0, wd f 1, wd f 2, wd f 3, 0, 0, 0, 0, 0⟩ := by unfold kj; rw [e2, hf]
 have E9 := ξ e9
 rw [hf] at OF
 have OF1 : Hid (∀ w' : World, Calls prog 85 #[.string ⟨(unhex (σ.nx.tl.ahead 93)).toArray⟩] w' fun e w'' => e = .returned (.agg #[.int .u64 (wd f 0), .int .u64 (wd f 1), .int .u64 (wd f 2), .int .u64 (wd f 3)]) ∧ Below w'.heap.size w' w'') := OF
 clear hcl hul hal ll s5 e2 e9 hf OF
 go_wp2_with fail
 refine wp_region_noPanic ?_
 refine wp_region_held_drew (S := fun w' => w'.cell? ⟨K + 4, 0, none⟩ = some (.func (.func 78) #[] #[.pointer (some ⟨K + 1, 0, none⟩)]) ∧ w'.cell? ⟨K + 5, 0, none⟩ = some (.func (.func 84) #[] #[.pointer (some ⟨K + 2, 0, none⟩), .pointer (some ⟨K, 0, none⟩), .pointer (some ⟨K + 4, 0, none⟩), .pointer (some ⟨K + 6, 0, none⟩), .pointer (some ⟨K + 7, 0, none⟩), .pointer (some ⟨K + 8, 0, none⟩)])) (by kernel_rfl) ?_ (fun qe => ?_)
 ·(try dsimp only); exact ⟨qG h2.f4, qG h2.f5⟩
 refine wpAnyH_take (i := 0) (v := ?_) rfl (by kernel_rfl) (by kernel_rfl) (by kernel_rfl) (fun _ _ _ h => h) (Or.inl ⟨by kernel_rfl, ?_⟩) (by assumption) ?_
 rotate_left
 ·(intro w qi; (try dsimp only at qi); go_simp); (try with_reducible rfl)
 try simp only [Act.put, jE]
 refine wpAnyH_ready (rs := [1]) (by kernel_rfl) (by simp) ?_
 refine AllReadyH.cons rfl (fun KK hK => ?_) ?_
 rotate_left
 ·exact AllReadyH.nil
 go_simp
 refine U.out.mono ?_
 rintro e w3 ⟨rfl, hc3, hO3⟩
 have h3 := e1 w3 (h2d.left hO3 hc3)
 have qQ := zj.drew.trans hO3.below
 clear U hO3 hc3 e1
 refine hK.out _ _ ?_ (fun qe => ?_)
 ·(try dsimp only); exact ⟨qG h3.f4, qG h3.f5⟩
 clear hK KK
 try simp only [Act.put, jE]
 refine wpAnyH_ready (rs := [2]) (by kernel_rfl) (by simp) ?_
 refine AllReadyH.cons rfl (fun KK hK => ?_) ?_
 rotate_left
 ·exact AllReadyH.nil
 go_simp
 refine (OH.out w3).mono ?_
 rintro e w4 ⟨rfl, Qr⟩
 have h4 := h3.below Qr
 have vU := qQ.trans (Qr.mono (by have := h3.size; omega))
 clear Qr OH
 refine hK.out _ _ ?_ (fun qe => ?_)
 ·(try dsimp only); exact ⟨qG h4.f4, qG h4.f5⟩
 clear hK KK
 try simp only [Act.put, jE]
 refine wpAnyH_ready (rs := [3]) (by kernel_rfl) (by simp) ?_
 refine AllReadyH.cons rfl (fun KK hK => ?_) ?_
 rotate_left
 ·exact AllReadyH.nil
 go_simp
 refine (OF1.out w4).mono ?_
 rintro e w5 ⟨rfl, Y5⟩
 have h5 := h4.below Y5
 have ki := vU.trans (Y5.mono (by have := h4.size; omega))
 clear Y5 OF1
 refine hK.out _ _ ?_ (fun qe => ?_)
 ·(try dsimp only); exact ⟨qG h5.f4, qG h5.f5⟩
 clear hK KK
 try simp only [Act.put, jE]
 refine wpAnyH_take (i := 4) (v := ?_) rfl (by kernel_rfl) (by kernel_rfl) (by kernel_rfl) (fun _ _ _ h => h) (Or.inl ⟨by kernel_rfl, ?_⟩) (by assumption) ?_
 rotate_left
 ·(intro w qi; (try dsimp only at qi); go_simp); (try with_reducible rfl)
 try simp only [Act.put, jE]
 refine wpAnyH_ready (rs := [5]) (by kernel_rfl) (by simp) ?_
 refine AllReadyH.cons rfl (fun KK hK => ?_) ?_
 rotate_left
 ·exact AllReadyH.nil
 go_simp
 refine (KX w0 K (σ.nx.tl.up 93) ⟨1, wd f 0, wd f 1, wd f 2, wd f 3, 0, 0, 0, 0, 0⟩ w5 h5 lx).mono ?_
 rintro e w6 ⟨rfl, h6, jY⟩
 refine hK.out _ _ ?_ (fun qe => ?_)
 ·(try dsimp only); exact ⟨qG h6.f4, qG h6.f5⟩
 clear hK KK
 try simp only [Act.put, jE]
 refine wpAnyH_take (i := 6) (v := ?_) rfl (by kernel_rfl) (by kernel_rfl) (by kernel_rfl) (fun _ _ _ h => h) (Or.inl ⟨by kernel_rfl, ?_⟩) (by assumption) ?_
 rotate_left
 ·(intro w qi; (try dsimp only at qi); go_simp); (try with_reducible rfl)
 try simp only [Act.put, jE]
 refine wpAnyH_done (by kernel_rfl) ?_ _
 refine NoPanic.normal ?_
 rw [← E9.out] at h6
 go_wp2
 go_ret
 exact ⟨rfl, h6, ki.trans jY⟩
theorem qib (w0 : World) (K n : Nat) (H : ye w0 K n) (σ : Rd) (hl : σ.left.headD 0 = 101) (hb : σ.begun + 1 ≤ 120) (w : World) (hs : Small (n + 1) σ (σ.nx.tl.put ⟨0, 0, 0, 0, 0, 0, 0, 0, 0, 0⟩).2) (h : RE w0 K σ w) :
  Calls prog 84 #[.pointer (some ⟨K + 2, 0, none⟩), .pointer (some ⟨K, 0, none⟩), .pointer (some ⟨K + 4, 0, none⟩), .pointer (some ⟨K + 6, 0, none⟩), .pointer (some ⟨K + 7, 0, none⟩), .pointer (some ⟨K + 8, 0, none⟩)] w fun e w' => e = .returned (.int .i64 (σ.nx.tl.put ⟨0, 0, 0, 0, 0, 0, 0, 0, 0, 0⟩).1) ∧ RE w0 K (σ.nx.tl.put ⟨0, 0, 0, 0, 0, 0, 0, 0, 0, 0⟩).2 w' ∧ Below K w w' := by
 obtain ⟨s1, s2, s3, s4, s5⟩ := hs
 have c2 := qG h.bg
 have f2 := qD _ _ _ _ h.bg 0
 have hw : IntKind.i64.wrap ((σ.begun : Int) + 1) = (σ.begun : Int) + 1 := by simp [IntKind.wrap, IntKind.signed, IntKind.bits]; omega
 have h1 := h.nx ((σ.begun : Int) + 1) rfl
 have qr : Below K w (w.setCell ⟨K + 2, 0, none⟩ (.int .i64 ((σ.begun : Int) + 1))) := (zD K (K + 2) w (by omega) _).below
 have d2 : (w.setCell ⟨K + 2, 0, none⟩ (.int .i64 ((σ.begun : Int) + 1))).cell? ⟨K + 2, 0, none⟩ = some (.int .i64 ((σ.begun : Int) + 1)) := by
  have := qG h1.bg
  simpa [Rd.nx] using this
 have VF : ((120 : Int) < (σ.begun : Int) + 1) = False := by simp; omega
 have NX := vo K σ.left _ h1.c
 have hv : (((σ.left.headD 0).toNat : Nat) : Int) = 101 := by rw [hl]; rfl
 rw [hv] at NX
 have NX1 := ξ NX
 clear NX h
 go_enter func84, ntmps84
 go_wp2_with fail
 refine NX1.out.mono ?_
 rintro e w2 ⟨rfl, vI, vX⟩
 have h2 : RE w0 K σ.nx.tl w2 := h1.left vX vI
 have zj := qr.trans vX.below
 clear h1 qr NX1 vX vI c2 f2 d2 hw VF hv hl
 have lx : σ.nx.tl.xs.length ≤ 1000 := by
  have : σ.nx.tl.xs.length + 1 ≤ 1000 := by simpa [Rd.put] using s5
  omega
 have c4 := qG h2.f4
 have f4 := qD _ _ _ _ h2.f4 0
 have P := ξ (KX w0 K σ.nx.tl ⟨0, 0, 0, 0, 0, 0, 0, 0, 0, 0⟩ w2 h2 lx)
 clear h2
 go_wp2_with fail
 refine P.out.mono ?_
 rintro e w3 ⟨rfl, h3, qQ⟩
 go_wp2
 go_ret
 exact ⟨rfl, h3, zj.trans qQ⟩
theorem qic (w0 : World) (K n : Nat) (H : ye w0 K n) (σ : Rd) (hl : σ.left.headD 0 = 94) (hb : σ.begun + 1 ≤ 120) (w : World) (hs : Small (n + 1) σ (σ.nx.tl.put ⟨2, 0, 0, 0, 0, 0, 0, 0, 0, 0⟩).2) (h : RE w0 K σ w) :
  Calls prog 84 #[.pointer (some ⟨K + 2, 0, none⟩), .pointer (some ⟨K, 0, none⟩), .pointer (some ⟨K + 4, 0, none⟩), .pointer (some ⟨K + 6, 0, none⟩), .pointer (some ⟨K + 7, 0, none⟩), .pointer (some ⟨K + 8, 0, none⟩)] w fun e w' => e = .returned (.int .i64 (σ.nx.tl.put ⟨2, 0, 0, 0, 0, 0, 0, 0, 0, 0⟩).1) ∧ RE w0 K (σ.nx.tl.put ⟨2, 0, 0, 0, 0, 0, 0, 0, 0, 0⟩).2 w' ∧ Below K w w' := by
 obtain ⟨s1, s2, s3, s4, s5⟩ := hs
 have c2 := qG h.bg
 have f2 := qD _ _ _ _ h.bg 0
 have hw : IntKind.i64.wrap ((σ.begun : Int) + 1) = (σ.begun : Int) + 1 := by simp [IntKind.wrap, IntKind.signed, IntKind.bits]; omega
 have h1 := h.nx ((σ.begun : Int) + 1) rfl
 have qr : Below K w (w.setCell ⟨K + 2, 0, none⟩ (.int .i64 ((σ.begun : Int) + 1))) := (zD K (K + 2) w (by omega) _).below
 have d2 : (w.setCell ⟨K + 2, 0, none⟩ (.int .i64 ((σ.begun : Int) + 1))).cell? ⟨K + 2, 0, none⟩ = some (.int .i64 ((σ.begun : Int) + 1)) := by
  have := qG h1.bg
  simpa [Rd.nx] using this
 have VF : ((120 : Int) < (σ.begun : Int) + 1) = False := by simp; omega
 have NX := vo K σ.left _ h1.c
 have hv : (((σ.left.headD 0).toNat : Nat) : Int) = 94 := by rw [hl]; rfl
 rw [hv] at NX
 have NX1 := ξ NX
 clear NX h
 go_enter func84, ntmps84
 go_wp2_with fail
 refine NX1.out.mono ?_
 rintro e w2 ⟨rfl, vI, vX⟩
 have h2 : RE w0 K σ.nx.tl w2 := h1.left vX vI
 have zj := qr.trans vX.below
 clear h1 qr NX1 vX vI c2 f2 d2 hw VF hv hl
 have lx : σ.nx.tl.xs.length ≤ 1000 := by
  have : σ.nx.tl.xs.length + 1 ≤ 1000 := by simpa [Rd.put] using s5
  omega
 have c4 := qG h2.f4
 have f4 := qD _ _ _ _ h2.f4 0
 have P := ξ (KX w0 K σ.nx.tl ⟨2, 0, 0, 0, 0, 0, 0, 0, 0, 0⟩ w2 h2 lx)
 clear h2
 go_wp2_with fail
 refine P.out.mono ?_
 rintro e w3 ⟨rfl, h3, qQ⟩
 go_wp2
 go_ret
 exact ⟨rfl, h3, zj.trans qQ⟩
theorem qid (w0 : World) (K n : Nat) (H : ye w0 K n) (σ : Rd) (hl : σ.left.headD 0 = 36) (hb : σ.begun + 1 ≤ 120) (w : World) (hs : Small (n + 1) σ (σ.nx.tl.put ⟨3, 0, 0, 0, 0, 0, 0, 0, 0, 0⟩).2) (h : RE w0 K σ w) :
  Calls prog 84 #[.pointer (some ⟨K + 2, 0, none⟩), .pointer (some ⟨K, 0, none⟩), .pointer (some ⟨K + 4, 0, none⟩), .pointer (some ⟨K + 6, 0, none⟩), .pointer (some ⟨K + 7, 0, none⟩), .pointer (some ⟨K + 8, 0, none⟩)] w fun e w' => e = .returned (.int .i64 (σ.nx.tl.put ⟨3, 0, 0, 0, 0, 0, 0, 0, 0, 0⟩).1) ∧ RE w0 K (σ.nx.tl.put ⟨3, 0, 0, 0, 0, 0, 0, 0, 0, 0⟩).2 w' ∧ Below K w w' := by
 obtain ⟨s1, s2, s3, s4, s5⟩ := hs
 have c2 := qG h.bg
 have f2 := qD _ _ _ _ h.bg 0
 have hw : IntKind.i64.wrap ((σ.begun : Int) + 1) = (σ.begun : Int) + 1 := by simp [IntKind.wrap, IntKind.signed, IntKind.bits]; omega
 have h1 := h.nx ((σ.begun : Int) + 1) rfl
 have qr : Below K w (w.setCell ⟨K + 2, 0, none⟩ (.int .i64 ((σ.begun : Int) + 1))) := (zD K (K + 2) w (by omega) _).below
 have d2 : (w.setCell ⟨K + 2, 0, none⟩ (.int .i64 ((σ.begun : Int) + 1))).cell? ⟨K + 2, 0, none⟩ = some (.int .i64 ((σ.begun : Int) + 1)) := by
  have := qG h1.bg
  simpa [Rd.nx] using this
 have VF : ((120 : Int) < (σ.begun : Int) + 1) = False := by simp; omega
 have NX := vo K σ.left _ h1.c
 have hv : (((σ.left.headD 0).toNat : Nat) : Int) = 36 := by rw [hl]; rfl
 rw [hv] at NX
 have NX1 := ξ NX
 clear NX h
 go_enter func84, ntmps84
 go_wp2_with fail
 refine NX1.out.mono ?_
 rintro e w2 ⟨rfl, vI, vX⟩
 have h2 : RE w0 K σ.nx.tl w2 := h1.left vX vI
 have zj := qr.trans vX.below
 clear h1 qr NX1 vX vI c2 f2 d2 hw VF hv hl
 have lx : σ.nx.tl.xs.length ≤ 1000 := by
  have : σ.nx.tl.xs.length + 1 ≤ 1000 := by simpa [Rd.put] using s5
  omega
 have c4 := qG h2.f4
 have f4 := qD _ _ _ _ h2.f4 0
 have P := ξ (KX w0 K σ.nx.tl ⟨3, 0, 0, 0, 0, 0, 0, 0, 0, 0⟩ w2 h2 lx)
 clear h2
 go_wp2_with fail
 refine P.out.mono ?_
 rintro e w3 ⟨rfl, h3, qQ⟩
 go_wp2
 go_ret
 exact ⟨rfl, h3, zj.trans qQ⟩
theorem qie (w0 : World) (K n : Nat) (H : ye w0 K n) (σ : Rd) (hl : σ.left.headD 0 = 38) (hb : σ.begun + 1 ≤ 120) (w : World) (hs : Small (n + 1) σ (kT (rd n) 4 σ.nx.tl).2) (h : RE w0 K σ w) :
  Calls prog 84 #[.pointer (some ⟨K + 2, 0, none⟩), .pointer (some ⟨K, 0, none⟩), .pointer (some ⟨K + 4, 0, none⟩), .pointer (some ⟨K + 6, 0, none⟩), .pointer (some ⟨K + 7, 0, none⟩), .pointer (some ⟨K + 8, 0, none⟩)] w fun e w' => e = .returned (.int .i64 (kT (rd n) 4 σ.nx.tl).1) ∧ RE w0 K (kT (rd n) 4 σ.nx.tl).2 w' ∧ Below K w w' := by
 obtain ⟨s1, s2, s3, s4, s5⟩ := hs
 have c2 := qG h.bg
 have f2 := qD _ _ _ _ h.bg 0
 have hw : IntKind.i64.wrap ((σ.begun : Int) + 1) = (σ.begun : Int) + 1 := by simp [IntKind.wrap, IntKind.signed, IntKind.bits]; omega
 have h1 := h.nx ((σ.begun : Int) + 1) rfl
 have qr : Below K w (w.setCell ⟨K + 2, 0, none⟩ (.int .i64 ((σ.begun : Int) + 1))) := (zD K (K + 2) w (by omega) _).below
 have d2 : (w.setCell ⟨K + 2, 0, none⟩ (.int .i64 ((σ.begun : Int) + 1))).cell? ⟨K + 2, 0, none⟩ = some (.int .i64 ((σ.begun : Int) + 1)) := by
  have := qG h1.bg
  simpa [Rd.nx] using this
 have VF : ((120 : Int) < (σ.begun : Int) + 1) = False := by simp; omega
 have NX := vo K σ.left _ h1.c
 have hv : (((σ.left.headD 0).toNat : Nat) : Int) = 38 := by rw [hl]; rfl
 rw [hv] at NX
 have NX1 := ξ NX
 clear NX h
 go_enter func84, ntmps84
 go_wp2_with fail
 refine NX1.out.mono ?_
 rintro e w2 ⟨rfl, vI, vX⟩
 have h2 : RE w0 K σ.nx.tl w2 := h1.left vX vI
 have zj := qr.trans vX.below
 clear h1 qr NX1 vX vI c2 f2 d2 hw VF hv hl
 have ll := ((Goes.nx σ).trans (Goes.tl σ.nx)).l
 have P := ξ (qha w0 K n H 4 σ.nx.tl w2 ⟨by show 120 ≤ σ.begun + 1 + n; omega, by omega, s3, s4, s5⟩ h2)
 have c6 := qG h2.f6
 have f6 := qD _ _ _ _ h2.f6 0
 clear h2 ll
 go_wp2_with fail
 refine P.out.mono ?_
 rintro e w3 ⟨rfl, h3, qQ⟩
 go_wp2
 go_ret
 exact ⟨rfl, h3, zj.trans qQ⟩
theorem qif (w0 : World) (K n : Nat) (H : ye w0 K n) (σ : Rd) (hl : σ.left.headD 0 = 124) (hb : σ.begun + 1 ≤ 120) (w : World) (hs : Small (n + 1) σ (kT (rd n) 5 σ.nx.tl).2) (h : RE w0 K σ w) :
  Calls prog 84 #[.pointer (some ⟨K + 2, 0, none⟩), .pointer (some ⟨K, 0, none⟩), .pointer (some ⟨K + 4, 0, none⟩), .pointer (some ⟨K + 6, 0, none⟩), .pointer (some ⟨K + 7, 0, none⟩), .pointer (some ⟨K + 8, 0, none⟩)] w fun e w' => e = .returned (.int .i64 (kT (rd n) 5 σ.nx.tl).1) ∧ RE w0 K (kT (rd n) 5 σ.nx.tl).2 w' ∧ Below K w w' := by
 obtain ⟨s1, s2, s3, s4, s5⟩ := hs
 have c2 := qG h.bg
 have f2 := qD _ _ _ _ h.bg 0
 have hw : IntKind.i64.wrap ((σ.begun : Int) + 1) = (σ.begun : Int) + 1 := by simp [IntKind.wrap, IntKind.signed, IntKind.bits]; omega
 have h1 := h.nx ((σ.begun : Int) + 1) rfl
 have qr : Below K w (w.setCell ⟨K + 2, 0, none⟩ (.int .i64 ((σ.begun : Int) + 1))) := (zD K (K + 2) w (by omega) _).below
 have d2 : (w.setCell ⟨K + 2, 0, none⟩ (.int .i64 ((σ.begun : Int) + 1))).cell? ⟨K + 2, 0, none⟩ = some (.int .i64 ((σ.begun : Int) + 1)) := by
  have := qG h1.bg
  simpa [Rd.nx] using this
 have VF : ((120 : Int) < (σ.begun : Int) + 1) = False := by simp; omega
 have NX := vo K σ.left _ h1.c
 have hv : (((σ.left.headD 0).toNat : Nat) : Int) = 124 := by rw [hl]; rfl
 rw [hv] at NX
 have NX1 := ξ NX
 clear NX h
 go_enter func84, ntmps84
 go_wp2_with fail
 refine NX1.out.mono ?_
 rintro e w2 ⟨rfl, vI, vX⟩
 have h2 : RE w0 K σ.nx.tl w2 := h1.left vX vI
 have zj := qr.trans vX.below
 clear h1 qr NX1 vX vI c2 f2 d2 hw VF hv hl
 have ll := ((Goes.nx σ).trans (Goes.tl σ.nx)).l
 have P := ξ (qha w0 K n H 5 σ.nx.tl w2 ⟨by show 120 ≤ σ.begun + 1 + n; omega, by omega, s3, s4, s5⟩ h2)
 have c6 := qG h2.f6
 have f6 := qD _ _ _ _ h2.f6 0
 clear h2 ll
 go_wp2_with fail
 refine P.out.mono ?_
 rintro e w3 ⟨rfl, h3, qQ⟩
 go_wp2
 go_ret
 exact ⟨rfl, h3, zj.trans qQ⟩
theorem qig (w0 : World) (K n : Nat) (H : ye w0 K n) (σ : Rd) (hl : σ.left.headD 0 = 42) (hb : σ.begun + 1 ≤ 120) (w : World) (hs : Small (n + 1) σ (jd (rd n) σ.nx.tl).2) (h : RE w0 K σ w) :
  Calls prog 84 #[.pointer (some ⟨K + 2, 0, none⟩), .pointer (some ⟨K, 0, none⟩), .pointer (some ⟨K + 4, 0, none⟩), .pointer (some ⟨K + 6, 0, none⟩), .pointer (some ⟨K + 7, 0, none⟩), .pointer (some ⟨K + 8, 0, none⟩)] w fun e w' => e = .returned (.int .i64 (jd (rd n) σ.nx.tl).1) ∧ RE w0 K (jd (rd n) σ.nx.tl).2 w' ∧ Below K w w' := by
 obtain ⟨s1, s2, s3, s4, s5⟩ := hs
 have c2 := qG h.bg
 have f2 := qD _ _ _ _ h.bg 0
 have hw : IntKind.i64.wrap ((σ.begun : Int) + 1) = (σ.begun : Int) + 1 := by simp [IntKind.wrap, IntKind.signed, IntKind.bits]; omega
 have h1 := h.nx ((σ.begun : Int) + 1) rfl
 have qr : Below K w (w.setCell ⟨K + 2, 0, none⟩ (.int .i64 ((σ.begun : Int) + 1))) := (zD K (K + 2) w (by omega) _).below
 have d2 : (w.setCell ⟨K + 2, 0, none⟩ (.int .i64 ((σ.begun : Int) + 1))).cell? ⟨K + 2, 0, none⟩ = some (.int .i64 ((σ.begun : Int) + 1)) := by
  have := qG h1.bg
  simpa [Rd.nx] using this
 have VF : ((120 : Int) < (σ.begun : Int) + 1) = False := by simp; omega
 have NX := vo K σ.left _ h1.c
 have hv : (((σ.left.headD 0).toNat : Nat) : Int) = 42 := by rw [hl]; rfl
 rw [hv] at NX
 have NX1 := ξ NX
 clear NX h
 go_enter func84, ntmps84
 go_wp2_with fail
 refine NX1.out.mono ?_
 rintro e w2 ⟨rfl, vI, vX⟩
 have h2 : RE w0 K σ.nx.tl w2 := h1.left vX vI
 have zj := qr.trans vX.below
 clear h1 qr NX1 vX vI c2 f2 d2 hw VF hv hl
 have ll := ((Goes.nx σ).trans (Goes.tl σ.nx)).l
 have P := ξ (qfG w0 K n H σ.nx.tl w2 ⟨by show 120 ≤ σ.begun + 1 + n; omega, by omega, s3, s4, s5⟩ h2)
 have c6 := qG h2.f7
 have f6 := qD _ _ _ _ h2.f7 0
 clear h2 ll
 go_wp2_with fail
 refine P.out.mono ?_
 rintro e w3 ⟨rfl, h3, qQ⟩
 go_wp2
 go_ret
 exact ⟨rfl, h3, zj.trans qQ⟩
theorem qih (w0 : World) (K n : Nat) (H : ye w0 K n) (σ : Rd) (hl : σ.left.headD 0 = 40) (hb : σ.begun + 1 ≤ 120) (w : World) (hs : Small (n + 1) σ (je (rd n) σ.nx.tl).2) (h : RE w0 K σ w) :
  Calls prog 84 #[.pointer (some ⟨K + 2, 0, none⟩), .pointer (some ⟨K, 0, none⟩), .pointer (some ⟨K + 4, 0, none⟩), .pointer (some ⟨K + 6, 0, none⟩), .pointer (some ⟨K + 7, 0, none⟩), .pointer (some ⟨K + 8, 0, none⟩)] w fun e w' => e = .returned (.int .i64 (je (rd n) σ.nx.tl).1) ∧ RE w0 K (je (rd n) σ.nx.tl).2 w' ∧ Below K w w' := by
 obtain ⟨s1, s2, s3, s4, s5⟩ := hs
 have c2 := qG h.bg
 have f2 := qD _ _ _ _ h.bg 0
 have hw : IntKind.i64.wrap ((σ.begun : Int) + 1) = (σ.begun : Int) + 1 := by simp [IntKind.wrap, IntKind.signed, IntKind.bits]; omega
 have h1 := h.nx ((σ.begun : Int) + 1) rfl
 have qr : Below K w (w.setCell ⟨K + 2, 0, none⟩ (.int .i64 ((σ.begun : Int) + 1))) := (zD K (K + 2) w (by omega) _).below
 have d2 : (w.setCell ⟨K + 2, 0, none⟩ (.int .i64 ((σ.begun : Int) + 1))).cell? ⟨K + 2, 0, none⟩ = some (.int .i64 ((σ.begun : Int) + 1)) := by
  have := qG h1.bg
  simpa [Rd.nx] using this
 have VF : ((120 : Int) < (σ.begun : Int) + 1) = False := by simp; omega
 have NX := vo K σ.left _ h1.c
 have hv : (((σ.left.headD 0).toNat : Nat) : Int) = 40 := by rw [hl]; rfl
 rw [hv] at NX
 have NX1 := ξ NX
 clear NX h
 go_enter func84, ntmps84
 go_wp2_with fail
 refine NX1.out.mono ?_
 rintro e w2 ⟨rfl, vI, vX⟩
 have h2 : RE w0 K σ.nx.tl w2 := h1.left vX vI
 have zj := qr.trans vX.below
 clear h1 qr NX1 vX vI c2 f2 d2 hw VF hv hl
 have ll := ((Goes.nx σ).trans (Goes.tl σ.nx)).l
 have P := ξ (qfH w0 K n H σ.nx.tl w2 ⟨by show 120 ≤ σ.begun + 1 + n; omega, by omega, s3, s4, s5⟩ h2)
 have c6 := qG h2.f8
 have f6 := qD _ _ _ _ h2.f8 0
 clear h2 ll
 go_wp2_with fail
 refine P.out.mono ?_
 rintro e w3 ⟨rfl, h3, qQ⟩
 go_wp2
 go_ret
 exact ⟨rfl, h3, zj.trans qQ⟩
theorem qii (w0 : World) (K n : Nat) (H : ye w0 K n) (σ : Rd) (hl : σ.left.headD 0 = 92) (hb : σ.begun + 1 ≤ 120) (w : World) (hs : Small (n + 1) σ (σ.nx.tl.tl.put (jH σ.nx.tl.left)).2) (h : RE w0 K σ w) :
  Calls prog 84 #[.pointer (some ⟨K + 2, 0, none⟩), .pointer (some ⟨K, 0, none⟩), .pointer (some ⟨K + 4, 0, none⟩), .pointer (some ⟨K + 6, 0, none⟩), .pointer (some ⟨K + 7, 0, none⟩), .pointer (some ⟨K + 8, 0, none⟩)] w fun e w' => e = .returned (.int .i64 (σ.nx.tl.tl.put (jH σ.nx.tl.left)).1) ∧ RE w0 K (σ.nx.tl.tl.put (jH σ.nx.tl.left)).2 w' ∧ Below K w w' := by
 obtain ⟨s1, s2, s3, s4, s5⟩ := hs
 have c2 := qG h.bg
 have f2 := qD _ _ _ _ h.bg 0
 have hw : IntKind.i64.wrap ((σ.begun : Int) + 1) = (σ.begun : Int) + 1 := by simp [IntKind.wrap, IntKind.signed, IntKind.bits]; omega
 have h1 := h.nx ((σ.begun : Int) + 1) rfl
 have qr : Below K w (w.setCell ⟨K + 2, 0, none⟩ (.int .i64 ((σ.begun : Int) + 1))) := (zD K (K + 2) w (by omega) _).below
 have d2 : (w.setCell ⟨K + 2, 0, none⟩ (.int .i64 ((σ.begun : Int) + 1))).cell? ⟨K + 2, 0, none⟩ = some (.int .i64 ((σ.begun : Int) + 1)) := by
  have := qG h1.bg
  simpa [Rd.nx] using this
 have VF : ((120 : Int) < (σ.begun : Int) + 1) = False := by simp; omega
 have NX := vo K σ.left _ h1.c
 have hv : (((σ.left.headD 0).toNat : Nat) : Int) = 92 := by rw [hl]; rfl
 rw [hv] at NX
 have NX1 := ξ NX
 clear NX h
 go_enter func84, ntmps84
 go_wp2_with fail
 refine NX1.out.mono ?_
 rintro e w2 ⟨rfl, vI, vX⟩
 have h2 : RE w0 K σ.nx.tl w2 := h1.left vX vI
 have zj := qr.trans vX.below
 clear h1 qr NX1 vX vI c2 f2 d2 hw VF hv hl
 have lx : σ.nx.tl.tl.xs.length ≤ 1000 := by
  have : σ.nx.tl.tl.xs.length + 1 ≤ 1000 := by simpa [Rd.put] using s5
  omega
 have h2d := h2.drew
 have NY := ξ (vo K σ.nx.tl.left w2.drew h2d.c)
 have zb := (σ.nx.tl.left.headD 0).toNat_lt
 have e1 : ∀ w', RE w0 K ⟨σ.nx.tl.left.tail, σ.nx.tl.xs, σ.nx.tl.begun, σ.nx.tl.groups⟩ w' → RE w0 K σ.nx.tl.tl w' := fun _ h => h
 clear s5
 obtain ⟨c, hc⟩ : ∃ c, (σ.nx.tl.left.headD 0).toNat = c := ⟨_, rfl⟩
 rw [hc] at NY zb
 have e9 : jH σ.nx.tl.left = ⟨8, 0, 0, 0, 0, 0, 0, 0, 0, (c : Int) - 48⟩ := by rw [← hc]; rfl
 have E9 := ξ e9
 clear e9 hc
 have yt : IntKind.i64.wrap (c : Int) = (c : Int) := by simp [IntKind.wrap, IntKind.signed, IntKind.bits]; omega
 have Kn : IntKind.i64.wrap ((c : Int) - 48) = (c : Int) - 48 := by simp [IntKind.wrap, IntKind.signed, IntKind.bits]; omega
 go_wp2_with fail
 refine wp_region_noPanic ?_
 refine wp_region_held_drew (S := fun w' => w'.cell? ⟨K + 4, 0, none⟩ = some (.func (.func 78) #[] #[.pointer (some ⟨K + 1, 0, none⟩)]) ∧ w'.cell? ⟨K + 5, 0, none⟩ = some (.func (.func 84) #[] #[.pointer (some ⟨K + 2, 0, none⟩), .pointer (some ⟨K, 0, none⟩), .pointer (some ⟨K + 4, 0, none⟩), .pointer (some ⟨K + 6, 0, none⟩), .pointer (some ⟨K + 7, 0, none⟩), .pointer (some ⟨K + 8, 0, none⟩)])) (by kernel_rfl) ?_ (fun qe => ?_)
 ·(try dsimp only); exact ⟨qG h2.f4, qG h2.f5⟩
 refine wpAnyH_take (i := 0) (v := ?_) rfl (by kernel_rfl) (by kernel_rfl) (by kernel_rfl) (fun _ _ _ h => h) (Or.inl ⟨by kernel_rfl, ?_⟩) (by assumption) ?_
 rotate_left
 ·(intro w qi; (try dsimp only at qi); go_simp); (try with_reducible rfl)
 try simp only [Act.put, jE]
 refine wpAnyH_ready (rs := [1]) (by kernel_rfl) (by simp) ?_
 refine AllReadyH.cons rfl (fun KK hK => ?_) ?_
 rotate_left
 ·exact AllReadyH.nil
 go_simp
 refine NY.out.mono ?_
 rintro e w3 ⟨rfl, hc3, hO3⟩
 have h3 := e1 w3 (h2d.left hO3 hc3)
 have qQ := zj.drew.trans hO3.below
 clear NY hO3 hc3 e1
 refine hK.out _ _ ?_ (fun qe => ?_)
 ·(try dsimp only); exact ⟨qG h3.f4, qG h3.f5⟩
 clear hK KK
 try simp only [Act.put, jE]
 refine wpAnyH_take (i := 2) (v := ?_) rfl (by kernel_rfl) (by kernel_rfl) (by kernel_rfl) (fun _ _ _ h => h) (Or.inl ⟨by kernel_rfl, ?_⟩) (by assumption) ?_
 rotate_left
 ·(intro w qi; (try dsimp only at qi); go_simp); (try with_reducible rfl)
 try simp only [Act.put, jE]
 refine wpAnyH_take (i := 3) (v := ?_) rfl (by kernel_rfl) (by kernel_rfl) (by kernel_rfl) (fun _ _ _ h => h) (Or.inl ⟨by kernel_rfl, ?_⟩) (by assumption) ?_
 rotate_left
 ·(intro w qi; (try dsimp only at qi); go_simp); (try with_reducible rfl)
 try simp only [Act.put, jE]
 refine wpAnyH_take (i := 4) (v := ?_) rfl (by kernel_rfl) (by kernel_rfl) (by kernel_rfl) (fun _ _ _ h => h) (Or.inl ⟨by kernel_rfl, ?_⟩) (by assumption) ?_
 rotate_left
 ·(intro w qi; (try dsimp only at qi); go_simp); (try with_reducible rfl)
 try simp only [Act.put, jE]
 refine wpAnyH_ready (rs := [5]) (by kernel_rfl) (by simp) ?_
 refine AllReadyH.cons rfl (fun KK hK => ?_) ?_
 rotate_left
 ·exact AllReadyH.nil
 go_simp
 refine (KX w0 K σ.nx.tl.tl ⟨8, 0, 0, 0, 0, 0, 0, 0, 0, (c : Int) - 48⟩ w3 h3 lx).mono ?_
 rintro e w4 ⟨rfl, h4, vU⟩
 refine hK.out _ _ ?_ (fun qe => ?_)
 ·(try dsimp only); exact ⟨qG h4.f4, qG h4.f5⟩
 clear hK KK
 try simp only [Act.put, jE]
 refine wpAnyH_take (i := 6) (v := ?_) rfl (by kernel_rfl) (by kernel_rfl) (by kernel_rfl) (fun _ _ _ h => h) (Or.inl ⟨by kernel_rfl, ?_⟩) (by assumption) ?_
 rotate_left
 ·(intro w qi; (try dsimp only at qi); go_simp); (try with_reducible rfl)
 try simp only [Act.put, jE]
 refine wpAnyH_done (by kernel_rfl) ?_ _
 refine NoPanic.normal ?_
 rw [← E9.out] at h4
 go_wp2
 go_ret
 exact ⟨rfl, h4, qQ.trans vU⟩
theorem qcQ (w0 : World) (K n : Nat) (H : ye w0 K n) (σ : Rd) (hl : ((σ.left.headD 0).toNat : Int) ≠ 101 ∧ ((σ.left.headD 0).toNat : Int) ≠ 91 ∧ ((σ.left.headD 0).toNat : Int) ≠ 94 ∧ ((σ.left.headD 0).toNat : Int) ≠ 36 ∧ ((σ.left.headD 0).toNat : Int) ≠ 38 ∧ ((σ.left.headD 0).toNat : Int) ≠ 124 ∧ ((σ.left.headD 0).toNat : Int) ≠ 42 ∧ ((σ.left.headD 0).toNat : Int) ≠ 40 ∧ ((σ.left.headD 0).toNat : Int) ≠ 92) (hb : σ.begun + 1 ≤ 120) (w : World) (hs : Small (n + 1) σ (((0 : Int), σ.nx.tl)).2) (h : RE w0 K σ w) :
  Calls prog 84 #[.pointer (some ⟨K + 2, 0, none⟩), .pointer (some ⟨K, 0, none⟩), .pointer (some ⟨K + 4, 0, none⟩), .pointer (some ⟨K + 6, 0, none⟩), .pointer (some ⟨K + 7, 0, none⟩), .pointer (some ⟨K + 8, 0, none⟩)] w fun e w' => e = .returned (.int .i64 (((0 : Int), σ.nx.tl)).1) ∧ RE w0 K (((0 : Int), σ.nx.tl)).2 w' ∧ Below K w w' := by
 obtain ⟨s1, s2, s3, s4, s5⟩ := hs
 have c2 := qG h.bg
 have f2 := qD _ _ _ _ h.bg 0
 have hw : IntKind.i64.wrap ((σ.begun : Int) + 1) = (σ.begun : Int) + 1 := by simp [IntKind.wrap, IntKind.signed, IntKind.bits]; omega
 have h1 := h.nx ((σ.begun : Int) + 1) rfl
 have qr : Below K w (w.setCell ⟨K + 2, 0, none⟩ (.int .i64 ((σ.begun : Int) + 1))) := (zD K (K + 2) w (by omega) _).below
 have d2 : (w.setCell ⟨K + 2, 0, none⟩ (.int .i64 ((σ.begun : Int) + 1))).cell? ⟨K + 2, 0, none⟩ = some (.int .i64 ((σ.begun : Int) + 1)) := by
  have := qG h1.bg
  simpa [Rd.nx] using this
 have VF : ((120 : Int) < (σ.begun : Int) + 1) = False := by simp; omega
 have NX := vo K σ.left _ h1.c
 have NX1 := ξ NX
 clear NX h
 obtain ⟨q1, q2, q3, q4, q5, q6, q7, q8, q9⟩ := hl
 have r1 : (((σ.left.headD 0).toNat : Int) == 101) = false := by simpa using q1
 have r2 : (((σ.left.headD 0).toNat : Int) == 91) = false := by simpa using q2
 have r3 : (((σ.left.headD 0).toNat : Int) == 94) = false := by simpa using q3
 have r4 : (((σ.left.headD 0).toNat : Int) == 36) = false := by simpa using q4
 have r5 : (((σ.left.headD 0).toNat : Int) == 38) = false := by simpa using q5
 have r6 : (((σ.left.headD 0).toNat : Int) == 124) = false := by simpa using q6
 have r7 : (((σ.left.headD 0).toNat : Int) == 42) = false := by simpa using q7
 have r8 : (((σ.left.headD 0).toNat : Int) == 40) = false := by simpa using q8
 have r9 : (((σ.left.headD 0).toNat : Int) == 92) = false := by simpa using q9
 clear q1 q2 q3 q4 q5 q6 q7 q8 q9
 generalize ((σ.left.headD 0).toNat : Int) = c at *
 go_enter func84, ntmps84
 go_wp2_with fail
 refine NX1.out.mono ?_
 rintro e w2 ⟨rfl, vI, vX⟩
 have h2 : RE w0 K σ.nx.tl w2 := h1.left vX vI
 have zj := qr.trans vX.below
 clear h1 qr NX1 vX vI c2 f2 d2 hw VF
 go_wp2
 go_ret
 exact ⟨rfl, h2, zj⟩
theorem V4 (w0 : World) (K : Nat) (σ : Rd) (hb : 120 ≤ σ.begun) (jD : σ.begun ≤ 1000) (w : World) (h : RE w0 K σ w) :
  Calls prog 84 #[.pointer (some ⟨K + 2, 0, none⟩), .pointer (some ⟨K, 0, none⟩), .pointer (some ⟨K + 4, 0, none⟩), .pointer (some ⟨K + 6, 0, none⟩), .pointer (some ⟨K + 7, 0, none⟩), .pointer (some ⟨K + 8, 0, none⟩)] w fun e w' => e = .returned (.int .i64 0) ∧ RE w0 K σ.nx w' ∧ Below K w w' := by
 have c2 := qG h.bg
 have f2 := qD _ _ _ _ h.bg 0
 have hw : IntKind.i64.wrap ((σ.begun : Int) + 1) = (σ.begun : Int) + 1 := by simp [IntKind.wrap, IntKind.signed, IntKind.bits]; omega
 have h1 := h.nx ((σ.begun : Int) + 1) rfl
 have qr : Below K w (w.setCell ⟨K + 2, 0, none⟩ (.int .i64 ((σ.begun : Int) + 1))) := (zD K (K + 2) w (by omega) _).below
 have d2 : (w.setCell ⟨K + 2, 0, none⟩ (.int .i64 ((σ.begun : Int) + 1))).cell? ⟨K + 2, 0, none⟩ = some (.int .i64 ((σ.begun : Int) + 1)) := by
  have := qG h1.bg
  simpa [Rd.nx] using this
 have VF : ((120 : Int) < (σ.begun : Int) + 1) = True := by simp; omega
 clear h
 go_enter func84, ntmps84
 go_wp2
 go_ret
 exact ⟨rfl, h1, qr⟩
theorem X5 (w0 : World) (K : Nat) : ∀ n, ye w0 K n
 | 0, σ, w, hs, h => by
  have hb : σ.begun + 1 ≤ 1000 := hs.b
  exact V4 w0 K σ (by have := hs.f; omega) (by omega) w h
 | n + 1, σ, w, hs, h => by
  have ih := X5 w0 K n
  by_cases hb : 120 < σ.begun + 1
  ·have e : rd (n + 1) σ = (0, σ.nx) := by rw [rd, if_pos hb]
   have jD : σ.begun + 1 ≤ 1000 := by have := hs.b; rw [e] at this; exact this
   rw [e]
   exact V4 w0 K σ (by omega) (by omega) w h
  ·have Ja : σ.begun + 1 ≤ 120 := by omega
   cases hl : σ.left with
   | nil =>
    have e : rd (n + 1) σ = ((0 : Int), σ.nx.tl) := by
     have e1 : σ.nx.tl = σ.nx := by simp [Rd.tl, Rd.nx, hl]
     rw [rd, if_neg hb, hl, e1]
    rw [e] at hs ⊢
    exact qcQ w0 K n ih σ (by rw [hl]; simp) Ja w hs h
   | cons c l =>
    have e : rd (n + 1) σ = kG (rd n) c σ.nx.tl := by rw [rd, if_neg hb, hl]
    rw [e] at hs ⊢
    have hh : σ.left.headD 0 = c := by rw [hl]; rfl
    by_cases k1 : c = 101
    ·subst k1
     exact qib w0 K n ih σ hh Ja w hs h
    by_cases k2 : c = 91
    ·subst k2
     exact qia w0 K n ih σ hh Ja w hs h
    by_cases k3 : c = 94
    ·subst k3
     exact qic w0 K n ih σ hh Ja w hs h
    by_cases k4 : c = 36
    ·subst k4
     exact qid w0 K n ih σ hh Ja w hs h
    by_cases k5 : c = 38
    ·subst k5
     exact qie w0 K n ih σ hh Ja w hs h
    by_cases k6 : c = 124
    ·subst k6
     exact qif w0 K n ih σ hh Ja w hs h
    by_cases k7 : c = 42
    ·subst k7
     exact qig w0 K n ih σ hh Ja w hs h
    by_cases k8 : c = 40
    ·subst k8
     exact qih w0 K n ih σ hh Ja w hs h
    by_cases k9 : c = 92
    ·subst k9
     exact qii w0 K n ih σ hh Ja w hs h
    have e2 : kG (rd n) c σ.nx.tl = ((0 : Int), σ.nx.tl) := by
     unfold kG
     rw [if_neg k1, if_neg k2, if_neg k3, if_neg k4, if_neg k5, if_neg k6, if_neg k7, if_neg k8, if_neg k9]
    rw [e2] at hs ⊢
    have ne : ∀ v : UInt8, c ≠ v → (c.toNat : Int) ≠ (v.toNat : Int) := fun v hv e => hv (UInt8.toNat_inj.1 (by omega))
    exact qcQ w0 K n ih σ (by rw [hh]; exact ⟨ne 101 k1, ne 91 k2, ne 94 k3, ne 36 k4, ne 38 k5, ne 124 k6, ne 42 k7, ne 40 k8, ne 92 k9⟩) Ja w hs h
end Go.Proofs.YtjgegohidhdbpaaGreatDoor
