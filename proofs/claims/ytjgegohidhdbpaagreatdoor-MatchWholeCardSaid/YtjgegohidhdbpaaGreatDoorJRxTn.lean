/- read's closures: what they share; next; put. -/
import Derived.Test.YtjgegohidhdbpaaGreatDoorJRxTj
import Derived.Test.YtjgegohidhdbpaaGreatDoorJSetJ
import Derived.Deep.RegionHeld3
open Go.Proofs.Tryz
set_option linter.unusedVariables false
set_option linter.unusedSimpArgs false
set_option maxRecDepth 100000
set_option maxHeartbeats 40000000
namespace Go.Proofs.YtjgegohidhdbpaaGreatDoor
open Go.RowKit Go.Lib
structure RE (w0 : World) (K : Nat) (σ : Rd) (w : World) : Prop where
 c : jF w K ⟨σ.left.toArray⟩
 l : ∃ v, w.heap[K + 1]? = some (.cells #[v] 22 (0, 0)) ∧ w.ownsRow (K + 9) 57 10 v σ.xs.length (flat σ.xs)
 bg : w.heap[K + 2]? = some (.cells #[.int .i64 σ.begun] 3 (0, 0))
 gr : w.heap[K + 3]? = some (.cells #[.int .i64 σ.groups] 3 (0, 0))
 f4 : w.heap[K + 4]? = some (.cells #[.func (.func 78) #[] #[.pointer (some ⟨K + 1, 0, none⟩)]] 111 (0, 0))
 f5 : w.heap[K + 5]? = some (.cells #[.func (.func 84) #[] #[.pointer (some ⟨K + 2, 0, none⟩), .pointer (some ⟨K, 0, none⟩), .pointer (some ⟨K + 4, 0, none⟩), .pointer (some ⟨K + 6, 0, none⟩), .pointer (some ⟨K + 7, 0, none⟩), .pointer (some ⟨K + 8, 0, none⟩)]] 112 (0, 0))
 f6 : w.heap[K + 6]? = some (.cells #[.func (.func 79) #[] #[.pointer (some ⟨K + 5, 0, none⟩), .pointer (some ⟨K + 4, 0, none⟩)]] 79 (0, 0))
 f7 : w.heap[K + 7]? = some (.cells #[.func (.func 80) #[] #[.pointer (some ⟨K, 0, none⟩), .pointer (some ⟨K + 4, 0, none⟩), .pointer (some ⟨K + 5, 0, none⟩)]] 112 (0, 0))
 f8 : w.heap[K + 8]? = some (.cells #[.func (.func 82) #[] #[.pointer (some ⟨K + 3, 0, none⟩), .pointer (some ⟨K + 5, 0, none⟩), .pointer (some ⟨K, 0, none⟩), .pointer (some ⟨K + 4, 0, none⟩)]] 112 (0, 0))
 hB : Below w0.heap.size w0 w
 hK : w0.heap.size ≤ K
 vs : Vars w0
theorem Wp {w w' : World} {K b n : Nat} {v : Value} {xs : List Value} (h : w.ownsRow (K + 9) 57 10 v n xs) (hO : Only K b w w') (hb : b < K + 9) : w'.ownsRow (K + 9) 57 10 v n xs := by
 refine ⟨h.1, ?_⟩
 rcases h.2 with h | ⟨g, cap, cur, e1, e2, e3, r⟩
 ·exact .inl h
 ·exact .inr ⟨g, cap, cur, e1, e2, (hO.heap g (by omega) (Array.getElem?_eq_some_iff.1 e3).1).trans e3, r⟩
section
variable {w0 : World} {K : Nat} {σ : Rd} {w w' : World}
theorem RE.size (h : RE w0 K σ w) : K + 9 ≤ w.heap.size := (Array.getElem?_eq_some_iff.1 h.f8).1
theorem RE.vars (h : RE w0 K σ w) : Vars w := h.vs.below h.hB
theorem RE.only (h : RE w0 K σ w) {b : Nat} (hO : Only K b w w') (hb : b < K + 4) (h1 : b ≠ K + 1) (τ : Rd) (hx : τ.xs = σ.xs) (hc : jF w' K ⟨τ.left.toArray⟩) (hbg : w'.heap[K + 2]? = some (.cells #[.int .i64 τ.begun] 3 (0, 0))) (QD : w'.heap[K + 3]? = some (.cells #[.int .i64 τ.groups] 3 (0, 0))) : RE w0 K τ w' := by
 have hs := h.size
 obtain ⟨v, h2, h3⟩ := h.l
 refine ⟨hc, ⟨v, (hO.heap _ (by omega) (by omega)).trans h2, ?_⟩, hbg, QD, (hO.heap _ (by omega) (by omega)).trans h.f4, (hO.heap _ (by omega) (by omega)).trans h.f5, (hO.heap _ (by omega) (by omega)).trans h.f6, (hO.heap _ (by omega) (by omega)).trans h.f7, (hO.heap _ (by omega) (by omega)).trans h.f8, h.hB.trans (hO.below.mono h.hK), h.hK, h.vs⟩
 rw [hx]
 exact Wp h3 hO (by omega)
theorem RE.left (h : RE w0 K σ w) (hO : Only K K w w') {s : List UInt8} (hS : jF w' K ⟨s.toArray⟩) : RE w0 K ⟨s, σ.xs, σ.begun, σ.groups⟩ w' := by
 have hs := h.size
 exact h.only hO (by omega) (by omega) _ rfl hS ((hO.heap _ (by omega) (by omega)).trans h.bg) ((hO.heap _ (by omega) (by omega)).trans h.gr)
theorem RE.below (h : RE w0 K σ w) (hB : Below w.heap.size w w') : RE w0 K σ w' := by
 have hs := h.size
 exact h.left (Only.of hB (by omega)) ((hB.block _ (by omega)).trans h.c)
theorem zD (K b : Nat) (w : World) (hb : K ≤ b) (v : Value) : Only K b w (w.setCell ⟨b, 0, none⟩ v) := Only.set (b := b) ⟨Below.refl _ _, fun _ _ _ => rfl⟩ hb v
theorem RE.nx (h : RE w0 K σ w) (v : Int) (hv : v = (σ.begun : Int) + 1) : RE w0 K σ.nx (w.setCell ⟨K + 2, 0, none⟩ (.int .i64 v)) := by
 have hs := h.size
 have hO := zD K (K + 2) w (by omega) (.int .i64 v)
 have a := heap_setCell_same _ (K + 2) 0 _ _ (.int .i64 v) h.bg
 refine h.only hO (by omega) (by omega) σ.nx rfl ((hO.heap _ (by omega) (by omega)).trans h.c) ?_ ((hO.heap _ (by omega) (by omega)).trans h.gr)
 rw [a, hv]; simp [Rd.nx]
theorem RE.grp (h : RE w0 K σ w) (v : Int) (hv : v = (σ.groups : Int) + 1) : RE w0 K σ.grp (w.setCell ⟨K + 3, 0, none⟩ (.int .i64 v)) := by
 have hs := h.size
 have hO := zD K (K + 3) w (by omega) (.int .i64 v)
 have a := heap_setCell_same _ (K + 3) 0 _ _ (.int .i64 v) h.gr
 refine h.only hO (by omega) (by omega) σ.grp rfl ((hO.heap _ (by omega) (by omega)).trans h.c) ((hO.heap _ (by omega) (by omega)).trans h.bg) ?_
 rw [a, hv]; simp [Rd.grp]
theorem RE.drew (h : RE w0 K σ w) : RE w0 K σ w.drew := ⟨h.c, h.l, h.bg, h.gr, h.f4, h.f5, h.f6, h.f7, h.f8, h.hB.drew, h.hK, h.vs⟩
theorem qG {w : World} {b : Nat} {v : Value} {t : TypeId} (h : w.heap[b]? = some (.cells #[v] t (0, 0))) : w.cell? ⟨b, 0, none⟩ = some v := by rw [cell_of _ _ _ _ h]; rfl
end
theorem vo (b : Nat) (l : List UInt8) (w : World) (h : jF w b ⟨l.toArray⟩) :
  Calls prog 83 #[.pointer (some ⟨b, 0, none⟩)] w fun e w' => e = .returned (.int .u8 ((l.headD 0).toNat : Int)) ∧ jF w' b ⟨l.tail.toArray⟩ ∧ Only b b w w' := by
 cases l with
 | nil =>
  refine (qcn b w h).mono ?_
  rintro e w' ⟨rfl, rfl⟩
  exact ⟨rfl, h, ⟨Below.refl _ _, fun _ _ _ => rfl⟩⟩
 | cons c l =>
  refine (qaV b c l w h).mono ?_
  rintro e w' ⟨rfl, rfl⟩
  exact ⟨rfl, h.set _, zD b b w (Nat.le_refl _) _⟩
theorem KX (w0 : World) (K : Nat) (σ : Rd) (x : Nd) (w : World) (h : RE w0 K σ w) (hn : σ.xs.length ≤ 1000) :
  Calls prog 78 #[.agg #[.int .i64 x.kind, .int .u64 x.w0, .int .u64 x.w1, .int .u64 x.w2, .int .u64 x.w3, .int .i64 x.a, .int .i64 x.b, .int .i64 x.mn, .int .i64 x.mx, .int .i64 x.n], .pointer (some ⟨K + 1, 0, none⟩)] w fun e w' => e = .returned (.int .i64 (σ.xs.length : Int)) ∧ RE w0 K (σ.put x).2 w' ∧ Below K w w' := by
 obtain ⟨i0, hi, QX, kF, vv⟩ := info_parts qcK
 obtain ⟨v, hv, zq⟩ := h.l
 have hs := h.size
 have c1 := qG hv
 have f1 := qD _ _ _ _ hv 0
 have lk : K + 1 < w.heap.size := by omega
 have lk2 : K + 1 < w.heap.size + 1 := by omega
 have ex : ∀ j : Nat, ((w.alloc (.cells x.cells 57)).alloc (.cells x.cells 57)).cell? ⟨w.heap.size + 1, j, none⟩ = x.cells[j]? := fun j => by
  have := (NB.new (w.alloc (.cells x.cells 57)) x).c j
  rw [World.size_alloc] at this
  exact this
 go_enter func78, ntmps78
 go_wp2_with (at_builtin; refine wpList_append_own _ rfl _ _ 22 rfl (K + 9) 57 i0 (.agg #[.int .i64 0, .int .u64 0, .int .u64 0, .int .u64 0, .int .u64 0, .int .i64 0, .int .i64 0, .int .i64 0, .int .i64 0, .int .i64 0]) 10 80 underlying22 hi QX kF vv rfl (by decide) _ _ _ rfl ((zq.alloc _).alloc _) ⟨w.heap.size + 1, 0, none⟩ 1 1 x.cells.toList rfl rfl ?qc2 ?qc3 ?qc4 ?qc5 ?qc6 ?_)
 case qc2 =>
  intro j u hj
  rw [Addr.add_lit, Nat.zero_add]
  refine (ex j).trans ?_
  simpa using hj
 case qc3 =>
  intro u hu
  simp [Nd.cells] at hu
  rcases hu with rfl | rfl | rfl | rfl | rfl | rfl | rfl | rfl | rfl | rfl <;> rfl
 case qc4 => unfold maxLen; omega
 case qc5 => omega
 case qc6 => simp; omega
 intro v' w1 hown1 zM hnil
 have qr : Below (K + 9) w w1 := (((Below.refl _ w).alloc (by omega) _).alloc (by simp; omega) _).grown zM (by simp; omega) (fun k hk => (zq.lt k hk).1)
 have Ko : w1.heap[K + 1]? = some (.cells #[v] 22 (0, 0)) := (qr.block _ (by omega)).trans hv
 have c2 := qG Ko
 have f2 := qD _ _ _ _ Ko 0
 have UD := heap_setCell_same _ (K + 1) 0 _ _ v' Ko
 have hv3 : (w1.setCell ⟨K + 1, 0, none⟩ v').heap[K + 1]? = some (.cells #[v'] 22 (0, 0)) := UD
 have hO := zD K (K + 1) w1 (by omega) v'
 have GP := qr.size
 have kp : ∀ k, k ≠ K + 1 → k < K + 9 → (w1.setCell ⟨K + 1, 0, none⟩ v').heap[k]? = w.heap[k]? := fun k h1 h2 => (hO.heap k h1 (by omega)).trans (qr.block k h2)
 have hfl : flat (σ.xs ++ [x]) = flat σ.xs ++ x.cells.toList := by simp [flat]
 have hRE : RE w0 K (σ.put x).2 (w1.setCell ⟨K + 1, 0, none⟩ v') := by
  refine ⟨(kp _ (by omega) (by omega)).trans h.c, ⟨v', hv3, ?_⟩, (kp _ (by omega) (by omega)).trans h.bg, (kp _ (by omega) (by omega)).trans h.gr, (kp _ (by omega) (by omega)).trans h.f4, (kp _ (by omega) (by omega)).trans h.f5, (kp _ (by omega) (by omega)).trans h.f6, (kp _ (by omega) (by omega)).trans h.f7, (kp _ (by omega) (by omega)).trans h.f8, ?_, h.hK, h.vs⟩
  ·show World.ownsRow _ _ _ _ _ (σ.xs ++ [x]).length (flat (σ.xs ++ [x]))
   rw [hfl, List.length_append]
   exact Wp hown1 hO (by omega)
  ·have := h.hK
   exact h.hB.trans ((qr.mono (by omega)).trans (hO.below.mono (by omega)))
 have hBK : Below K w (w1.setCell ⟨K + 1, 0, none⟩ v') := (qr.mono (by omega)).trans hO.below
 have c3 := qG hv3
 have qkG := hown1.2
 clear zq hown1 zM hnil h hO kp hfl qr
 obtain ⟨rfl, h0⟩ | ⟨g, cap, cur, rfl, _⟩ := qkG
 ·omega
 ·clear UD hv3
  go_wp2
  go_ret
  refine ⟨?_, hRE, hBK⟩
  simp
structure Small (n : Nat) (σ : Rd) (τ : Rd) : Prop where
 f : 120 ≤ σ.begun + n
 l : σ.left.length < 4294967281
 b : τ.begun ≤ 1000
 g : τ.groups ≤ 1000
 x : τ.xs.length ≤ 1000
def ye (w0 : World) (K n : Nat) : Prop := ∀ (σ : Rd) (w : World), Small n σ (rd n σ).2 → RE w0 K σ w →
 Calls prog 84 #[.pointer (some ⟨K + 2, 0, none⟩), .pointer (some ⟨K, 0, none⟩), .pointer (some ⟨K + 4, 0, none⟩), .pointer (some ⟨K + 6, 0, none⟩), .pointer (some ⟨K + 7, 0, none⟩), .pointer (some ⟨K + 8, 0, none⟩)] w fun e w' => e = .returned (.int .i64 (rd n σ).1) ∧ RE w0 K (rd n σ).2 w' ∧ Below K w w'
theorem qha (w0 : World) (K n : Nat) (H : ye w0 K n) (kd : Int) (σ : Rd) (w : World) (hs : Small n σ (kT (rd n) kd σ).2) (h : RE w0 K σ w) :
  Calls prog 79 #[.int .i64 kd, .pointer (some ⟨K + 5, 0, none⟩), .pointer (some ⟨K + 4, 0, none⟩)] w fun e w' => e = .returned (.int .i64 (kT (rd n) kd σ).1) ∧ RE w0 K (kT (rd n) kd σ).2 w' ∧ Below K w w' := by
 obtain ⟨s1, s2, s3, s4, s5⟩ := hs
 unfold kT at s3 s4 s5 ⊢
 have G1 := ZV n σ
 have G2 := ZV n (rd n σ).2
 have lx : (rd n (rd n σ).2).2.xs.length + 1 ≤ 1000 := by simpa [Rd.put] using s5
 have s3 : (rd n (rd n σ).2).2.begun ≤ 1000 := s3
 have s4 : (rd n (rd n σ).2).2.groups ≤ 1000 := s4
 have gb := G2.b; have gg := G2.g; have gx := G2.x; have gb1 := G1.b; have gl := G1.l
 have H1 := ξ (H σ w ⟨s1, s2, by omega, by omega, by omega⟩ h)
 have H2 := ξ fun w' => H (rd n σ).2 w' ⟨by omega, by omega, by omega, by omega, by omega⟩
 clear G1 G2 gb gg gx gb1 gl H s1 s2 s5
 generalize rd n (rd n σ).2 = v at *
 generalize rd n σ = u at *
 obtain ⟨a, τ⟩ := u
 obtain ⟨b, υ⟩ := v
 simp only at H1 H2 lx s3 s4 ⊢
 have c5 := qG h.f5
 have f5 := qD _ _ _ _ h.f5 0
 go_enter func79, ntmps79
 go_wp2_with fail
 refine H1.out.mono ?_
 rintro e w1 ⟨rfl, h1, qr⟩
 have c5 := qG h1.f5
 have f5 := qD _ _ _ _ h1.f5 0
 clear h H1
 go_wp2_with fail
 refine (H2.out w1 h1).mono ?_
 rintro e w2 ⟨rfl, h2, zj⟩
 have c4 := qG h2.f4
 have f4 := qD _ _ _ _ h2.f4 0
 have P := ξ (KX w0 K υ ⟨kd, 0, 0, 0, 0, a, b, 0, 0, 0⟩ w2 h2 (by omega))
 have Jy := qr.trans zj
 clear h1 H2 h2 qr zj c5 f5
 go_wp2_with fail
 refine P.out.mono ?_
 rintro e w3 ⟨rfl, h3, qQ⟩
 go_wp2
 go_ret
 exact ⟨rfl, h3, Jy.trans qQ⟩
theorem qfG (w0 : World) (K n : Nat) (H : ye w0 K n) (σ : Rd) (w : World) (hs : Small n σ (jd (rd n) σ).2) (h : RE w0 K σ w) :
  Calls prog 80 #[.pointer (some ⟨K, 0, none⟩), .pointer (some ⟨K + 4, 0, none⟩), .pointer (some ⟨K + 5, 0, none⟩)] w fun e w' => e = .returned (.int .i64 (jd (rd n) σ).1) ∧ RE w0 K (jd (rd n) σ).2 w' ∧ Below K w w' := by
 obtain ⟨s1, s2, s3, s4, s5⟩ := hs
 unfold jd at s3 s4 s5 ⊢
 have lx : (rd n ((σ.up 44).up 59)).2.xs.length + 1 ≤ 1000 := by simpa [Rd.put] using s5
 have s3 : (rd n ((σ.up 44).up 59)).2.begun ≤ 1000 := s3
 have s4 : (rd n ((σ.up 44).up 59)).2.groups ≤ 1000 := s4
 have gl1 := (Goes.up σ 44).l
 have gl2 := (Goes.up (σ.up 44) 59).l
 have H1 := ξ fun w' => H ((σ.up 44).up 59) w' ⟨s1, by omega, by omega, by omega, by omega⟩
 have N1 := ξ (X8 K K (Nat.le_refl _) ⟨σ.left.toArray⟩ ⟨#[44]⟩ (by simpa [ByteArray.size] using s2) w0 w h.vs h.hB h.hK h.c)
 have N2 := ξ fun w' hB' kZ => X8 K K (Nat.le_refl _) ⟨(σ.up 44).left.toArray⟩ ⟨#[59]⟩ (by simp [ByteArray.size]; omega) w0 w' h.vs hB' h.hK kZ
 have e1 : ∀ w', RE w0 K ⟨(Lib.cut σ.left [44]).2.1, σ.xs, σ.begun, σ.groups⟩ w' → RE w0 K (σ.up 44) w' := fun _ h => h
 have e2 : ∀ w', RE w0 K ⟨(Lib.cut (σ.up 44).left [59]).2.1, (σ.up 44).xs, (σ.up 44).begun, (σ.up 44).groups⟩ w' → RE w0 K ((σ.up 44).up 59) w' := fun _ h => h
 have x1 : zy (σ.ahead 44) = zy (Lib.cut σ.left [44]).1 := rfl
 have x2 : zy ((σ.up 44).ahead 59) = zy (Lib.cut (σ.up 44).left [59]).1 := rfl
 have N1 : Hid (Calls prog 81 #[.pointer (some ⟨K, 0, none⟩), .string ⟨#[44]⟩] w fun r w' => r = .returned (.int .i64 (zy (σ.ahead 44))) ∧ jF w' K ⟨(Lib.cut σ.left [44]).2.1.toArray⟩ ∧ Only K K w w') := N1
 have N2 : Hid (∀ w', Below w0.heap.size w0 w' → jF w' K ⟨(σ.up 44).left.toArray⟩ → Calls prog 81 #[.pointer (some ⟨K, 0, none⟩), .string ⟨#[59]⟩] w' fun r w'' => r = .returned (.int .i64 (zy ((σ.up 44).ahead 59))) ∧ jF w'' K ⟨(Lib.cut (σ.up 44).left [59]).2.1.toArray⟩ ∧ Only K K w' w'') := N2
 clear gl1 gl2 H s1 s2 s5 x1 x2
 generalize rd n ((σ.up 44).up 59) = u at *
 obtain ⟨a, τ⟩ := u
 simp only at H1 lx s3 s4 ⊢
 generalize zy (σ.ahead 44) = m at *
 generalize zy ((σ.up 44).ahead 59) = M at *
 go_enter func80, ntmps80
 go_wp2_with fail
 refine N1.out.mono ?_
 rintro e w1 ⟨rfl, yp, hO1⟩
 have h1 := e1 w1 (h.left hO1 yp)
 have qr := hO1.below
 clear h N1 hO1 yp
 go_wp2_with fail
 refine (N2.out w1 h1.hB h1.c).mono ?_
 rintro e w2 ⟨rfl, vI, vX⟩
 have h2 := e2 w2 (h1.left vX vI)
 have zj := qr.trans vX.below
 clear h1 N2 vX vI qr e1 e2
 have h2d := h2.drew
 go_wp2_with fail
 refine wp_region_noPanic ?_
 refine wp_region_held_drew (S := fun w' => w'.cell? ⟨K + 4, 0, none⟩ = some (.func (.func 78) #[] #[.pointer (some ⟨K + 1, 0, none⟩)]) ∧ w'.cell? ⟨K + 5, 0, none⟩ = some (.func (.func 84) #[] #[.pointer (some ⟨K + 2, 0, none⟩), .pointer (some ⟨K, 0, none⟩), .pointer (some ⟨K + 4, 0, none⟩), .pointer (some ⟨K + 6, 0, none⟩), .pointer (some ⟨K + 7, 0, none⟩), .pointer (some ⟨K + 8, 0, none⟩)])) (by kernel_rfl) ?_ (fun qe => ?_)
 ·(try dsimp only); exact ⟨qG h2.f4, qG h2.f5⟩
 refine wpAnyH_take (i := 0) (v := ?_) rfl (by kernel_rfl) (by kernel_rfl) (by kernel_rfl) (fun _ _ _ h => h) (Or.inl ⟨by kernel_rfl, ?_⟩) (by assumption) ?_
 rotate_left
 ·(intro w qi; (try dsimp only at qi); go_simp); (try with_reducible rfl)
 try simp only [Act.put, jE]
 refine wpAnyH_take (i := 1) (v := ?_) rfl (by kernel_rfl) (by kernel_rfl) (by kernel_rfl) (fun _ _ _ h => h) (Or.inl ⟨by kernel_rfl, ?_⟩) (by assumption) ?_
 rotate_left
 ·(intro w qi; (try dsimp only at qi); go_simp); (try with_reducible rfl)
 try simp only [Act.put, jE]
 refine wpAnyH_take (i := 3) (v := ?_) rfl (by kernel_rfl) (by kernel_rfl) (by kernel_rfl) (fun _ _ _ h => h) (Or.inl ⟨by kernel_rfl, ?_⟩) (by assumption) ?_
 rotate_left
 ·(intro w qi; (try dsimp only at qi); go_simp); (try with_reducible rfl)
 try simp only [Act.put, jE]
 refine wpAnyH_take (i := 4) (v := ?_) rfl (by kernel_rfl) (by kernel_rfl) (by kernel_rfl) (fun _ _ _ h => h) (Or.inl ⟨by kernel_rfl, ?_⟩) (by assumption) ?_
 rotate_left
 ·(intro w qi; (try dsimp only at qi); go_simp); (try with_reducible rfl)
 try simp only [Act.put, jE]
 refine wpAnyH_ready (rs := [2]) (by kernel_rfl) (by simp) ?_
 refine AllReadyH.cons rfl (fun KK hK => ?_) ?_
 rotate_left
 ·exact AllReadyH.nil
 go_simp
 refine (H1.out _ h2d).mono ?_
 rintro e w3 ⟨rfl, h3, qQ⟩
 refine hK.out _ _ ?_ (fun qe => ?_)
 ·(try dsimp only); exact ⟨qG h3.f4, qG h3.f5⟩
 clear hK KK
 try simp only [Act.put, jE]
 refine wpAnyH_take (i := 5) (v := ?_) rfl (by kernel_rfl) (by kernel_rfl) (by kernel_rfl) (fun _ _ _ h => h) (Or.inl ⟨by kernel_rfl, ?_⟩) (by assumption) ?_
 rotate_left
 ·(intro w qi; (try dsimp only at qi); go_simp); (try with_reducible rfl)
 try simp only [Act.put, jE]
 refine wpAnyH_ready (rs := [6]) (by kernel_rfl) (by simp) ?_
 refine AllReadyH.cons rfl (fun KK hK => ?_) ?_
 rotate_left
 ·exact AllReadyH.nil
 go_simp
 refine (KX w0 K τ ⟨6, 0, 0, 0, 0, a, 0, m, M, 0⟩ w3 h3 (by omega)).mono ?_
 rintro e w4 ⟨rfl, h4, vU⟩
 refine hK.out _ _ ?_ (fun qe => ?_)
 ·(try dsimp only); exact ⟨qG h4.f4, qG h4.f5⟩
 clear hK KK
 try simp only [Act.put, jE]
 refine wpAnyH_take (i := 7) (v := ?_) rfl (by kernel_rfl) (by kernel_rfl) (by kernel_rfl) (fun _ _ _ h => h) (Or.inl ⟨by kernel_rfl, ?_⟩) (by assumption) ?_
 rotate_left
 ·(intro w qi; (try dsimp only at qi); go_simp); (try with_reducible rfl)
 try simp only [Act.put, jE]
 refine wpAnyH_done (by kernel_rfl) ?_ _
 refine NoPanic.normal ?_
 go_wp2
 go_ret
 exact ⟨rfl, h4, (zj.drew.trans qQ).trans vU⟩
theorem qfH (w0 : World) (K n : Nat) (H : ye w0 K n) (σ : Rd) (w : World) (hs : Small n σ (je (rd n) σ).2) (h : RE w0 K σ w) :
  Calls prog 82 #[.pointer (some ⟨K + 3, 0, none⟩), .pointer (some ⟨K + 5, 0, none⟩), .pointer (some ⟨K, 0, none⟩), .pointer (some ⟨K + 4, 0, none⟩)] w fun e w' => e = .returned (.int .i64 (je (rd n) σ).1) ∧ RE w0 K (je (rd n) σ).2 w' ∧ Below K w w' := by
 obtain ⟨s1, s2, s3, s4, s5⟩ := hs
 unfold je at s3 s4 s5 ⊢
 have lx : (rd n σ.grp).2.xs.length + 1 ≤ 1000 := by simpa [Rd.put, Rd.tl] using s5
 have s3 : (rd n σ.grp).2.begun ≤ 1000 := s3
 have s4 : (rd n σ.grp).2.groups ≤ 1000 := s4
 have gg := (ZV n σ.grp).g
 have g1 : σ.grp.groups = σ.groups + 1 := rfl
 have H1 := ξ fun w' => H σ.grp w' ⟨s1, s2, by omega, by omega, by omega⟩
 have hg : σ.groups ≤ 1000 := by omega
 clear gg g1 H s1 s2 s5
 generalize rd n σ.grp = u at *
 obtain ⟨a, τ⟩ := u
 simp only at H1 lx s3 s4 ⊢
 have c3 := qG h.gr
 have f3 := qD _ _ _ _ h.gr 0
 have hw : IntKind.i64.wrap ((σ.groups : Int) + 1) = (σ.groups : Int) + 1 := by simp [IntKind.wrap, IntKind.signed, IntKind.bits]; omega
 have h1 := h.grp ((σ.groups : Int) + 1) rfl
 have qr : Below K w (w.setCell ⟨K + 3, 0, none⟩ (.int .i64 ((σ.groups : Int) + 1))) := (zD K (K + 3) w (by omega) _).below
 have d3 : (w.setCell ⟨K + 3, 0, none⟩ (.int .i64 ((σ.groups : Int) + 1))).cell? ⟨K + 3, 0, none⟩ = some (.int .i64 ((σ.groups : Int) + 1)) := by
  have := qG h1.gr
  simpa [Rd.grp] using this
 have c5 := qG h1.f5
 have f5 := qD _ _ _ _ h1.f5 0
 clear h
 go_enter func82, ntmps82
 go_wp2_with fail
 refine (H1.out _ h1).mono ?_
 rintro e w2 ⟨rfl, h2, zj⟩
 have Jy := qr.trans zj
 have NX := ξ (vo K τ.left w2 h2.c)
 clear c3 f3 d3 c5 f5 h1 H1 qr zj
 go_wp2_with fail
 refine NX.out.mono ?_
 rintro e w3 ⟨rfl, hc3, hO3⟩
 have h3 : RE w0 K τ.tl w3 := h2.left hO3 hc3
 have qQ := Jy.trans hO3.below
 have c4 := qG h3.f4
 have f4 := qD _ _ _ _ h3.f4 0
 have P := ξ (KX w0 K τ.tl ⟨7, 0, 0, 0, 0, a, 0, 0, 0, (σ.groups : Int) + 1⟩ w3 h3 (by show τ.xs.length ≤ 1000; omega))
 clear h2 h3 hO3 hc3 NX Jy
 go_wp2_with fail
 refine P.out.mono ?_
 rintro e w4 ⟨rfl, h4, vU⟩
 go_wp2
 go_ret
 exact ⟨rfl, h4, qQ.trans vU⟩
end Go.Proofs.YtjgegohidhdbpaaGreatDoor
