/- strings.Builder: what its writing methods leave, at this program. -/
import Derived.Test.YtjgegohidhdbpaaGreatDoorJRxTi
import Derived.Lib.FrozenHead2
import Derived.Lib.OthersKept
import Derived.Test.YtjgegohidhdbpaaGreatDoorJRxTj
open Go.Proofs.Tryz
set_option linter.unusedVariables false
set_option linter.unusedSimpArgs false
set_option maxRecDepth 100000
set_option maxHeartbeats 40000000
namespace Go.Proofs.YtjgegohidhdbpaaGreatDoor
open Go.RowKit
theorem qci : (Tryz.prog.info? 120).map (fun i => i.size) = some 2 := by kernel_rfl
theorem X7 (b : Nat) (w : World) (h0 : w.cell? ⟨b, 0, none⟩ = some (.pointer none)) (hsh : w.shape? b = some (120, 2)) (hfz : w.frozen? ⟨b, 0, none⟩ = false) :
  Calls prog 118 #[.pointer (some ⟨b, 0, none⟩)] w fun e w' => e = .returned (.tuple #[]) ∧ w' = w.setCell ⟨b, 0, none⟩ (.pointer (some ⟨b, 0, none⟩)) := by
 obtain ⟨j, hj, hjs⟩ := Option.map_eq_some_iff.1 qci
 go_enter func118, ntmps118
 go_wp2
 rw [Lib.run_to_unsafe w ⟨b, 0, none⟩ underlying117 underlying178 hj (by rw [hjs]; decide) hsh (Nat.zero_lt_succ 1)]
 simp only [Result.andThen]
 rw [Oper.upon_value]
 go_wp2
 rw [run_callFunc_extern func138 (by kernel_rfl) (by kernel_rfl) (by kernel_rfl) (e := Extern.AbiNoEscape.same) (by kernel_rfl)]
 rw [Lib.run_noEscape]
 simp only [Result.andThen]
 rw [Oper.upon_value]
 go_wp2
 rw [Lib.run_from_unsafe w ⟨b, 0, none⟩ underlying178 underlying117 hj hsh (by kernel_rfl)]
 simp only [Result.andThen]
 rw [Oper.upon_value]
 go_wp2
 go_end0
 exact ⟨rfl, rfl⟩
theorem Uw (b : Nat) (w : World) (h0 : w.cell? ⟨b, 0, none⟩ = some (.pointer (some ⟨b, 0, none⟩))) :
  Calls prog 118 #[.pointer (some ⟨b, 0, none⟩)] w fun e w' => e = .returned (.tuple #[]) ∧ w' = w := by
 obtain ⟨j, hj, _⟩ := Option.map_eq_some_iff.1 qci
 go_enter func118, ntmps118
 go_wp2
 rw [Lib.run_neq_ptr_same w _ underlying117 hj]
 go_wp2
 go_end0
 exact ⟨rfl, rfl⟩
def SB (B b : Nat) (bs : List Value) (w : World) : Prop := Lib.IsBuilderF 120 5 B b bs w
def SK (B b : Nat) (w w' : World) : Prop := Below B w w' ∧ Lib.OthersKept 5 (some b) w w'
theorem GU (B b : Nat) (bs : List Value) (w : World) (h : SB B b bs w) :
  Calls prog 118 #[.pointer (some ⟨b, 0, none⟩)] w fun e w' => e = .returned (.tuple #[]) ∧ Lib.BuilderAtF 120 5 B b (.pointer (some ⟨b, 0, none⟩)) bs w' ∧ SK B b w w' := by
 rcases h with h | h
 ·refine (X7 b w h.cell0 h.shape h.frozen0).mono ?_
  rintro e w' ⟨rfl, rfl⟩
  exact ⟨rfl, h.used _, (Below.refl B w).setCell (p := ⟨b, 0, none⟩) h.1 _, (Lib.OthersKept.refl _ _ w).setCell ⟨b, 0, none⟩ rfl _⟩
 ·refine (Uw b w h.cell0).mono ?_
  rintro e w' ⟨rfl, rfl⟩
  exact ⟨rfl, h, Below.refl B _, Lib.OthersKept.refl _ _ _⟩
theorem yP (B b : Nat) (bs : List Value) (s : ByteArray) (w : World) (h : SB B b bs w) (qq : bs.length + s.size ≤ 140737488355328) (hBw : B ≤ w.heap.size) :
  Calls prog 89 #[.pointer (some ⟨b, 0, none⟩), .string s] w fun e w' => e = .returned (.tuple #[.int .i64 s.size, .nilIface]) ∧ SB B b (bs ++ Lib.strCells s) w' ∧ SK B b w w' := by
 obtain ⟨i0, hi, QX, kF, vv⟩ := info_parts Jz
 have CK := ξ (GU B b bs w h)
 go_enter func89, ntmps89
 go_wp2_with fail
 refine CK.out.mono ?_
 rintro e w1 ⟨rfl, h1, Ja, zO⟩
 obtain ⟨hB, v, Qy, zq, hne⟩ := h1
 have c1 : w1.cell? ⟨b, 1, none⟩ = some v := by rw [Lib.cell_of_heap Qy]; rfl
 go_wp2_with (at_builtin; refine Lib.wpList_append_own_stringF _ rfl _ _ 118 9 rfl B 5 i0 underlying118 underlying9 hi QX kF vv _ _ _ rfl zq s rfl ?c3 ?c4 ?c5 ?_)
 case c3 => unfold maxLen; omega
 case c4 => omega
 case c5 => have := Ja.size; omega
 intro v' w2 KW zM _
 have zb : b < w1.heap.size := (Array.getElem?_eq_some_iff.1 Qy).1
 have jD : w2.heap[b]? = some (.cells #[.pointer (some ⟨b, 0, none⟩), v] 120 (0, 0)) := by
  rw [zM.block b zb (fun e => hne e.symm)]
  exact Qy
 have d1 : w2.cell? ⟨b, 1, none⟩ = some v := by rw [Lib.cell_of_heap jD]; rfl
 have f1 : w2.frozen? ⟨b, 1, none⟩ = false := Lib.frozen_of_heap jD 1
 obtain ⟨ao, n', cap, rfl⟩ : ∃ ao n' cap, v' = .slice ao n' cap := by
  rcases KW.2 with ⟨hv, _⟩ | ⟨g, cap, cur, fz, hv, _⟩
  ·exact ⟨_, _, _, hv⟩
  ·exact ⟨_, _, _, hv⟩
 go_wp2
 go_ret2
 refine ⟨rfl, .inr ?_, ?_, (zO.grown zM (Lib.ownsRowF_kind zq)).setCell ⟨b, 1, none⟩ rfl _⟩
 ·exact Lib.BuilderAtF.put (T := 120) (e := 5) hB jD (bs' := bs ++ Lib.strCells s) (by simpa [Lib.strCells_length] using KW) (by decide)
 ·exact (Ja.grown zM (by have := Ja.size; omega) (fun k hk => (zq.lt k hk).1)).setCell (p := ⟨b, 1, none⟩) hB _
theorem qfi (B b : Nat) (bs : List Value) (c : Int) (w : World) (h : SB B b bs w) (qq : bs.length + 1 ≤ 140737488355328) (hBw : B ≤ w.heap.size) :
  Calls prog 91 #[.pointer (some ⟨b, 0, none⟩), .int .u8 c] w fun e w' => e = .returned .nilIface ∧ SB B b (bs ++ [.int .u8 c]) w' ∧ SK B b w w' := by
 obtain ⟨i0, hi, QX, kF, vv⟩ := info_parts Jz
 have CK := ξ (GU B b bs w h)
 go_enter func91, ntmps91
 go_wp2_with fail
 refine CK.out.mono ?_
 rintro e w1 ⟨rfl, h1, Ja, zO⟩
 obtain ⟨hB, v, Qy, zq, hne⟩ := h1
 have c1 : w1.cell? ⟨b, 1, none⟩ = some v := by rw [Lib.cell_of_heap Qy]; rfl
 have qhP := Ja.size
 go_wp2_with (at_builtin; refine wpList_append_ownF _ rfl _ _ 118 rfl B 5 i0 (.int .u8 0) 1 1 underlying118 hi QX kF vv rfl (by decide) _ _ _ rfl (zq.alloc _) ⟨w1.heap.size, 0, none⟩ 1 1 [.int .u8 c] rfl rfl ?c1 ?c2 ?c3 ?c4 ?c5 ?_)
 case c1 =>
  intro j u hj
  rw [Addr.add_lit, Nat.zero_add, cell_of _ _ _ _ (zt w1 (.cells #[.int .u8 c] 5))]
  simpa using hj
 case c2 => intro u hu; simp at hu; subst hu; rfl
 case c3 => unfold maxLen; omega
 case c4 => omega
 case c5 => simp; omega
 intro v' w2 KW zM _
 have zb : b < w1.heap.size := (Array.getElem?_eq_some_iff.1 Qy).1
 have jD : w2.heap[b]? = some (.cells #[.pointer (some ⟨b, 0, none⟩), v] 120 (0, 0)) := by
  rw [zM.block b (by simp; omega) (fun e => hne e.symm), qK _ _ _ zb]
  exact Qy
 have d1 : w2.cell? ⟨b, 1, none⟩ = some v := by rw [Lib.cell_of_heap jD]; rfl
 have f1 : w2.frozen? ⟨b, 1, none⟩ = false := Lib.frozen_of_heap jD 1
 obtain ⟨g, cap, rfl⟩ : ∃ g cap, v' = .slice (some ⟨g, 0, none⟩) (bs.length + 1) cap := by
  rcases KW.2 with ⟨_, h0⟩ | ⟨g, cap, cur, fz, hv, _⟩
  ·omega
  ·exact ⟨g, cap, hv⟩
 go_wp2
 go_ret
 refine ⟨rfl, .inr ?_, ?_, ((zO.alloc _).grown zM (Lib.ownsRowF_kind (zq.alloc _))).setCell ⟨b, 1, none⟩ rfl _⟩
 ·exact Lib.BuilderAtF.put (T := 120) (e := 5) hB jD (bs' := bs ++ [.int .u8 c]) (by simpa using KW) (by decide)
 ·exact ((Ja.alloc (by omega) _).grown zM (by simp; omega) (fun k hk => (zq.lt k hk).1)).setCell (p := ⟨b, 1, none⟩) hB _
theorem BuilderAtF.below {T e : TypeId} {B b : Nat} {p : Value} {bs : List Value} {w w' : World} (h : Lib.BuilderAtF T e B b p bs w) (hB : Below w.heap.size w w') : Lib.BuilderAtF T e B b p bs w' := by
 obtain ⟨h1, v, h2, h3, h4⟩ := h
 refine ⟨h1, v, (hB.block b (Array.getElem?_eq_some_iff.1 h2).1).trans h2, ⟨h3.1, ?_⟩, h4⟩
 rcases h3.2 with h | ⟨g, cap, cur, fz, e1, e2, e3, r⟩
 ·exact .inl h
 ·exact .inr ⟨g, cap, cur, fz, e1, e2, (hB.block g (Array.getElem?_eq_some_iff.1 e3).1).trans e3, r⟩
theorem SB.below {B b : Nat} {bs : List Value} {w w' : World} (h : SB B b bs w) (hB : Below w.heap.size w w') : SB B b bs w' := h.imp (fun x => BuilderAtF.below x hB) (fun x => BuilderAtF.below x hB)
theorem SK.of {B b : Nat} {w w' : World} (hB : Below w.heap.size w w') (h : B ≤ w.heap.size) : SK B b w w' :=
 ⟨hB.mono h, fun k o hk _ _ => (hB.block k (Array.getElem?_eq_some_iff.1 hk).1).trans hk⟩
theorem SK.trans {B b : Nat} {w w' w2 : World} (h : SK B b w w') (h' : SK B b w' w2) : SK B b w w2 := ⟨h.1.trans h'.1, h.2.trans h'.2⟩
structure Zy (L C b o n cap : Nat) (xs : List Nd) (bs : List Value) (w : World) : Prop where
 lt : b < L
 lc : L < C
 l : w.heap[L]? = some (.cells #[.slice (some ⟨b, o, none⟩) n cap] 22 (0, 0))
 sb : SB L C bs w
 f : w.heap[C + 1]? = some (.cells #[.func (.func 88) #[] #[.pointer (some ⟨L, 0, none⟩), .pointer (some ⟨C, 0, none⟩), .pointer (some ⟨C + 1, 0, none⟩)]] 121 (0, 0))
 x : qn w b o xs
 fit : ∀ w', Below L w w' → VC w'
section
variable {L C b o n cap : Nat} {xs : List Nd} {bs bs' : List Value} {w w' : World}
theorem Zy.size (h : Zy L C b o n cap xs bs w) : C + 2 ≤ w.heap.size := (Array.getElem?_eq_some_iff.1 h.f).1
theorem Zy.below (h : Zy L C b o n cap xs bs w) (hB : Below w.heap.size w w') : Zy L C b o n cap xs bs w' := by
 have hs := h.size
 have lc := h.lc
 have hB' : Below L w w' := hB.mono (by omega)
 exact ⟨h.lt, h.lc, (hB.block _ (by omega)).trans h.l, h.sb.below hB, (hB.block _ (by omega)).trans h.f, h.x.below hB h.x.lt, fun w2 h2 => h.fit w2 (hB'.trans h2)⟩
theorem Zy.sk (h : Zy L C b o n cap xs bs w) (hk : SK L C w w') (sb : SB L C bs' w') : Zy L C b o n cap xs bs' w' :=
 ⟨h.lt, h.lc, hk.2 _ _ h.l (fun e => by have := Option.some.inj e; have := h.lc; omega) (fun c fz e => by injection e with _ e2; exact absurd e2 (by decide)), sb,
  hk.2 _ _ h.f (fun e => by have := Option.some.inj e; omega) (fun c fz e => by injection e with _ e2; exact absurd e2 (by decide)), h.x.below hk.1 h.lt, fun w2 h2 => h.fit w2 (hk.1.trans h2)⟩
theorem Zy.cl (h : Zy L C b o n cap xs bs w) : w.cell? ⟨L, 0, none⟩ = some (.slice (some ⟨b, o, none⟩) n cap) := by simp [World.cell?, h.l]
theorem Zy.cf (h : Zy L C b o n cap xs bs w) : w.cell? ⟨C + 1, 0, none⟩ = some (.func (.func 88) #[] #[.pointer (some ⟨L, 0, none⟩), .pointer (some ⟨C, 0, none⟩), .pointer (some ⟨C + 1, 0, none⟩)]) := by simp [World.cell?, h.f]
theorem NB.sk {c : Nat} {x : Nd} (h : NB w c x) (hk : SK L C w w') (h1 : c ≠ C) : NB w' c x :=
 ⟨hk.2 _ _ h.heap (fun e => h1 (Option.some.inj e)) (fun c fz e => by injection e with _ e2; exact absurd e2 (by decide))⟩
end
def kV (L C b o0 n cap : Nat) (xs : List Nd) (t : T) : Prop := ∀ (o k : Nat) (bs : List Value) (w : World), T.At (fun i => xs[i]?) t o → o + t.size = k + 1 → k < n → bs.length + (text t).length ≤ 100000000 → Zy L C b o0 n cap xs bs w →
 Calls prog 88 #[.int .i64 (k : Int), .pointer (some ⟨L, 0, none⟩), .pointer (some ⟨C, 0, none⟩), .pointer (some ⟨C + 1, 0, none⟩)] w fun e w' => e = .returned (.tuple #[]) ∧ Zy L C b o0 n cap xs (bs ++ Lib.byteCells (text t)) w' ∧ SK L C w w'
theorem YP (L C b o0 n cap : Nat) (xs : List Nd) (KU : xs.length = n) (hn : n ≤ 120) (qM : ∀ (i : Nat) (x : Nd), xs[i]? = some x → x.Fits) (w0 w1 w2 w3 : Nat) (xa xb m M xn : Int) : kV L C b o0 n cap xs (T.leaf ⟨0, w0, w1, w2, w3, xa, xb, m, M, xn⟩) := by
 intro o k bs w ha he hk qq hw
 have hr := ha.root
 rw [show o + (T.leaf ⟨0, w0, w1, w2, w3, xa, xb, m, M, xn⟩).size - 1 = k by omega] at hr
 have yN := qM k _ hr
 have vT := ξ ha
 clear ha
 simp only [T.root] at hr yN
 have lw := hw.size
 have lb := hw.lt
 have lc := hw.lc
 have cl := hw.cl
 have qu := hw.x.cell k _ hr
 have d_ := zB qu
 have bA := (Below.refl w.heap.size w).alloc (Nat.le_refl _) (.cells #[.int .i64 0, .int .u64 w0, .int .u64 w1, .int .u64 w2, .int .u64 w3, .int .i64 xa, .int .i64 xb, .int .i64 m, .int .i64 M, .int .i64 xn] 57)
 have KV := hw.below bA
 have X1 := NB.new w ⟨0, w0, w1, w2, w3, xa, xb, m, M, xn⟩
 have HH := ξ (yO 0 w0 w1 w2 w3 xa xb m M xn yN (by omega) _ (hw.fit _ (bA.mono (by omega))))
 obtain ⟨ht, yd⟩ : ∃ l, l = qU ⟨0, w0, w1, w2, w3, xa, xb, m, M, xn⟩ := ⟨_, rfl⟩
 rw [← yd] at HH
 have hlh : bs.length + ht.length ≤ 100000000 := by rw [yd, show qU ⟨0, w0, w1, w2, w3, xa, xb, m, M, xn⟩ = text (T.leaf ⟨0, w0, w1, w2, w3, xa, xb, m, M, xn⟩) from rfl]; exact qq
 have HT := ξ yd
 clear yd qu
 obtain ⟨S, hS⟩ : ∃ S : ByteArray, S = ⟨ht.toArray⟩ := ⟨_, rfl⟩
 have hSs : S.size = ht.length := by rw [hS]; simp [ByteArray.size]
 have XX : Lib.strCells S = Lib.byteCells ht := by rw [hS]; rfl
 rw [← hS] at HH
 clear hS
 go_enter func88, ntmps88
 go_wp2_with fail
 refine HH.out.mono ?_
 rintro e W1 ⟨rfl, qr⟩
 have yt := KV.below qr
 have k1 : SK L C w W1 := (SK.of bA (by omega)).trans (SK.of qr (by have := KV.size; omega))
 have WW := ξ (yP L C bs S W1 yt.sb (by omega) (by have := yt.size; omega))
 go_wp2_with fail
 refine WW.out.mono ?_
 rintro e W2 ⟨rfl, Qm, k2⟩
 rw [XX] at Qm
 have Kn := yt.sk k2 Qm
 have k12 := k1.trans k2
 have X2 := (X1.below qr X1.lt).sk k2 (by omega)
 have y0 : W2.cell? ⟨w.heap.size, 0, none⟩ = some (.int .i64 0) := X2.c 0
 go_wp2
 go_end0
 refine ⟨rfl, ?_, k12⟩
 have e1 : text (T.leaf ⟨0, w0, w1, w2, w3, xa, xb, m, M, xn⟩) = ht := by rw [HT.out]; rfl
 rw [e1]
 exact Kn
theorem YQ (L C b o0 n cap : Nat) (xs : List Nd) (KU : xs.length = n) (hn : n ≤ 120) (qM : ∀ (i : Nat) (x : Nd), xs[i]? = some x → x.Fits) (w0 w1 w2 w3 : Nat) (xa xb m M xn : Int) : kV L C b o0 n cap xs (T.leaf ⟨1, w0, w1, w2, w3, xa, xb, m, M, xn⟩) := by
 intro o k bs w ha he hk qq hw
 have hr := ha.root
 rw [show o + (T.leaf ⟨1, w0, w1, w2, w3, xa, xb, m, M, xn⟩).size - 1 = k by omega] at hr
 have yN := qM k _ hr
 have vT := ξ ha
 clear ha
 simp only [T.root] at hr yN
 have lw := hw.size
 have lb := hw.lt
 have lc := hw.lc
 have cl := hw.cl
 have qu := hw.x.cell k _ hr
 have d_ := zB qu
 have bA := (Below.refl w.heap.size w).alloc (Nat.le_refl _) (.cells #[.int .i64 1, .int .u64 w0, .int .u64 w1, .int .u64 w2, .int .u64 w3, .int .i64 xa, .int .i64 xb, .int .i64 m, .int .i64 M, .int .i64 xn] 57)
 have KV := hw.below bA
 have X1 := NB.new w ⟨1, w0, w1, w2, w3, xa, xb, m, M, xn⟩
 have HH := ξ (yO 1 w0 w1 w2 w3 xa xb m M xn yN (by omega) _ (hw.fit _ (bA.mono (by omega))))
 obtain ⟨ht, yd⟩ : ∃ l, l = qU ⟨1, w0, w1, w2, w3, xa, xb, m, M, xn⟩ := ⟨_, rfl⟩
 rw [← yd] at HH
 have hlh : bs.length + ht.length ≤ 100000000 := by rw [yd, show qU ⟨1, w0, w1, w2, w3, xa, xb, m, M, xn⟩ = text (T.leaf ⟨1, w0, w1, w2, w3, xa, xb, m, M, xn⟩) from rfl]; exact qq
 have HT := ξ yd
 clear yd qu
 obtain ⟨S, hS⟩ : ∃ S : ByteArray, S = ⟨ht.toArray⟩ := ⟨_, rfl⟩
 have hSs : S.size = ht.length := by rw [hS]; simp [ByteArray.size]
 have XX : Lib.strCells S = Lib.byteCells ht := by rw [hS]; rfl
 rw [← hS] at HH
 clear hS
 go_enter func88, ntmps88
 go_wp2_with fail
 refine HH.out.mono ?_
 rintro e W1 ⟨rfl, qr⟩
 have yt := KV.below qr
 have k1 : SK L C w W1 := (SK.of bA (by omega)).trans (SK.of qr (by have := KV.size; omega))
 have WW := ξ (yP L C bs S W1 yt.sb (by omega) (by have := yt.size; omega))
 go_wp2_with fail
 refine WW.out.mono ?_
 rintro e W2 ⟨rfl, Qm, k2⟩
 rw [XX] at Qm
 have Kn := yt.sk k2 Qm
 have k12 := k1.trans k2
 have X2 := (X1.below qr X1.lt).sk k2 (by omega)
 have y0 : W2.cell? ⟨w.heap.size, 0, none⟩ = some (.int .i64 1) := X2.c 0
 go_wp2
 go_end0
 refine ⟨rfl, ?_, k12⟩
 have e1 : text (T.leaf ⟨1, w0, w1, w2, w3, xa, xb, m, M, xn⟩) = ht := by rw [HT.out]; rfl
 rw [e1]
 exact Kn
theorem YR (L C b o0 n cap : Nat) (xs : List Nd) (KU : xs.length = n) (hn : n ≤ 120) (qM : ∀ (i : Nat) (x : Nd), xs[i]? = some x → x.Fits) (w0 w1 w2 w3 : Nat) (xa xb m M xn : Int) : kV L C b o0 n cap xs (T.leaf ⟨2, w0, w1, w2, w3, xa, xb, m, M, xn⟩) := by
 intro o k bs w ha he hk qq hw
 have hr := ha.root
 rw [show o + (T.leaf ⟨2, w0, w1, w2, w3, xa, xb, m, M, xn⟩).size - 1 = k by omega] at hr
 have yN := qM k _ hr
 have vT := ξ ha
 clear ha
 simp only [T.root] at hr yN
 have lw := hw.size
 have lb := hw.lt
 have lc := hw.lc
 have cl := hw.cl
 have qu := hw.x.cell k _ hr
 have d_ := zB qu
 have bA := (Below.refl w.heap.size w).alloc (Nat.le_refl _) (.cells #[.int .i64 2, .int .u64 w0, .int .u64 w1, .int .u64 w2, .int .u64 w3, .int .i64 xa, .int .i64 xb, .int .i64 m, .int .i64 M, .int .i64 xn] 57)
 have KV := hw.below bA
 have X1 := NB.new w ⟨2, w0, w1, w2, w3, xa, xb, m, M, xn⟩
 have HH := ξ (yO 2 w0 w1 w2 w3 xa xb m M xn yN (by omega) _ (hw.fit _ (bA.mono (by omega))))
 obtain ⟨ht, yd⟩ : ∃ l, l = qU ⟨2, w0, w1, w2, w3, xa, xb, m, M, xn⟩ := ⟨_, rfl⟩
 rw [← yd] at HH
 have hlh : bs.length + ht.length ≤ 100000000 := by rw [yd, show qU ⟨2, w0, w1, w2, w3, xa, xb, m, M, xn⟩ = text (T.leaf ⟨2, w0, w1, w2, w3, xa, xb, m, M, xn⟩) from rfl]; exact qq
 have HT := ξ yd
 clear yd qu
 obtain ⟨S, hS⟩ : ∃ S : ByteArray, S = ⟨ht.toArray⟩ := ⟨_, rfl⟩
 have hSs : S.size = ht.length := by rw [hS]; simp [ByteArray.size]
 have XX : Lib.strCells S = Lib.byteCells ht := by rw [hS]; rfl
 rw [← hS] at HH
 clear hS
 go_enter func88, ntmps88
 go_wp2_with fail
 refine HH.out.mono ?_
 rintro e W1 ⟨rfl, qr⟩
 have yt := KV.below qr
 have k1 : SK L C w W1 := (SK.of bA (by omega)).trans (SK.of qr (by have := KV.size; omega))
 have WW := ξ (yP L C bs S W1 yt.sb (by omega) (by have := yt.size; omega))
 go_wp2_with fail
 refine WW.out.mono ?_
 rintro e W2 ⟨rfl, Qm, k2⟩
 rw [XX] at Qm
 have Kn := yt.sk k2 Qm
 have k12 := k1.trans k2
 have X2 := (X1.below qr X1.lt).sk k2 (by omega)
 have y0 : W2.cell? ⟨w.heap.size, 0, none⟩ = some (.int .i64 2) := X2.c 0
 go_wp2
 go_end0
 refine ⟨rfl, ?_, k12⟩
 have e1 : text (T.leaf ⟨2, w0, w1, w2, w3, xa, xb, m, M, xn⟩) = ht := by rw [HT.out]; rfl
 rw [e1]
 exact Kn
theorem YS (L C b o0 n cap : Nat) (xs : List Nd) (KU : xs.length = n) (hn : n ≤ 120) (qM : ∀ (i : Nat) (x : Nd), xs[i]? = some x → x.Fits) (w0 w1 w2 w3 : Nat) (xa xb m M xn : Int) : kV L C b o0 n cap xs (T.leaf ⟨3, w0, w1, w2, w3, xa, xb, m, M, xn⟩) := by
 intro o k bs w ha he hk qq hw
 have hr := ha.root
 rw [show o + (T.leaf ⟨3, w0, w1, w2, w3, xa, xb, m, M, xn⟩).size - 1 = k by omega] at hr
 have yN := qM k _ hr
 have vT := ξ ha
 clear ha
 simp only [T.root] at hr yN
 have lw := hw.size
 have lb := hw.lt
 have lc := hw.lc
 have cl := hw.cl
 have qu := hw.x.cell k _ hr
 have d_ := zB qu
 have bA := (Below.refl w.heap.size w).alloc (Nat.le_refl _) (.cells #[.int .i64 3, .int .u64 w0, .int .u64 w1, .int .u64 w2, .int .u64 w3, .int .i64 xa, .int .i64 xb, .int .i64 m, .int .i64 M, .int .i64 xn] 57)
 have KV := hw.below bA
 have X1 := NB.new w ⟨3, w0, w1, w2, w3, xa, xb, m, M, xn⟩
 have HH := ξ (yO 3 w0 w1 w2 w3 xa xb m M xn yN (by omega) _ (hw.fit _ (bA.mono (by omega))))
 obtain ⟨ht, yd⟩ : ∃ l, l = qU ⟨3, w0, w1, w2, w3, xa, xb, m, M, xn⟩ := ⟨_, rfl⟩
 rw [← yd] at HH
 have hlh : bs.length + ht.length ≤ 100000000 := by rw [yd, show qU ⟨3, w0, w1, w2, w3, xa, xb, m, M, xn⟩ = text (T.leaf ⟨3, w0, w1, w2, w3, xa, xb, m, M, xn⟩) from rfl]; exact qq
 have HT := ξ yd
 clear yd qu
 obtain ⟨S, hS⟩ : ∃ S : ByteArray, S = ⟨ht.toArray⟩ := ⟨_, rfl⟩
 have hSs : S.size = ht.length := by rw [hS]; simp [ByteArray.size]
 have XX : Lib.strCells S = Lib.byteCells ht := by rw [hS]; rfl
 rw [← hS] at HH
 clear hS
 go_enter func88, ntmps88
 go_wp2_with fail
 refine HH.out.mono ?_
 rintro e W1 ⟨rfl, qr⟩
 have yt := KV.below qr
 have k1 : SK L C w W1 := (SK.of bA (by omega)).trans (SK.of qr (by have := KV.size; omega))
 have WW := ξ (yP L C bs S W1 yt.sb (by omega) (by have := yt.size; omega))
 go_wp2_with fail
 refine WW.out.mono ?_
 rintro e W2 ⟨rfl, Qm, k2⟩
 rw [XX] at Qm
 have Kn := yt.sk k2 Qm
 have k12 := k1.trans k2
 have X2 := (X1.below qr X1.lt).sk k2 (by omega)
 have y0 : W2.cell? ⟨w.heap.size, 0, none⟩ = some (.int .i64 3) := X2.c 0
 go_wp2
 go_end0
 refine ⟨rfl, ?_, k12⟩
 have e1 : text (T.leaf ⟨3, w0, w1, w2, w3, xa, xb, m, M, xn⟩) = ht := by rw [HT.out]; rfl
 rw [e1]
 exact Kn
theorem YT (L C b o0 n cap : Nat) (xs : List Nd) (KU : xs.length = n) (hn : n ≤ 120) (qM : ∀ (i : Nat) (x : Nd), xs[i]? = some x → x.Fits) (w0 w1 w2 w3 : Nat) (xa xb m M xn : Int) : kV L C b o0 n cap xs (T.leaf ⟨8, w0, w1, w2, w3, xa, xb, m, M, xn⟩) := by
 intro o k bs w ha he hk qq hw
 have hr := ha.root
 rw [show o + (T.leaf ⟨8, w0, w1, w2, w3, xa, xb, m, M, xn⟩).size - 1 = k by omega] at hr
 have yN := qM k _ hr
 have vT := ξ ha
 clear ha
 simp only [T.root] at hr yN
 have lw := hw.size
 have lb := hw.lt
 have lc := hw.lc
 have cl := hw.cl
 have qu := hw.x.cell k _ hr
 have d_ := zB qu
 have bA := (Below.refl w.heap.size w).alloc (Nat.le_refl _) (.cells #[.int .i64 8, .int .u64 w0, .int .u64 w1, .int .u64 w2, .int .u64 w3, .int .i64 xa, .int .i64 xb, .int .i64 m, .int .i64 M, .int .i64 xn] 57)
 have KV := hw.below bA
 have X1 := NB.new w ⟨8, w0, w1, w2, w3, xa, xb, m, M, xn⟩
 have HH := ξ (yO 8 w0 w1 w2 w3 xa xb m M xn yN (by omega) _ (hw.fit _ (bA.mono (by omega))))
 obtain ⟨ht, yd⟩ : ∃ l, l = qU ⟨8, w0, w1, w2, w3, xa, xb, m, M, xn⟩ := ⟨_, rfl⟩
 rw [← yd] at HH
 have hlh : bs.length + ht.length ≤ 100000000 := by rw [yd, show qU ⟨8, w0, w1, w2, w3, xa, xb, m, M, xn⟩ = text (T.leaf ⟨8, w0, w1, w2, w3, xa, xb, m, M, xn⟩) from rfl]; exact qq
 have HT := ξ yd
 clear yd qu
 obtain ⟨S, hS⟩ : ∃ S : ByteArray, S = ⟨ht.toArray⟩ := ⟨_, rfl⟩
 have hSs : S.size = ht.length := by rw [hS]; simp [ByteArray.size]
 have XX : Lib.strCells S = Lib.byteCells ht := by rw [hS]; rfl
 rw [← hS] at HH
 clear hS
 go_enter func88, ntmps88
 go_wp2_with fail
 refine HH.out.mono ?_
 rintro e W1 ⟨rfl, qr⟩
 have yt := KV.below qr
 have k1 : SK L C w W1 := (SK.of bA (by omega)).trans (SK.of qr (by have := KV.size; omega))
 have WW := ξ (yP L C bs S W1 yt.sb (by omega) (by have := yt.size; omega))
 go_wp2_with fail
 refine WW.out.mono ?_
 rintro e W2 ⟨rfl, Qm, k2⟩
 rw [XX] at Qm
 have Kn := yt.sk k2 Qm
 have k12 := k1.trans k2
 have X2 := (X1.below qr X1.lt).sk k2 (by omega)
 have y0 : W2.cell? ⟨w.heap.size, 0, none⟩ = some (.int .i64 8) := X2.c 0
 go_wp2
 go_end0
 refine ⟨rfl, ?_, k12⟩
 have e1 : text (T.leaf ⟨8, w0, w1, w2, w3, xa, xb, m, M, xn⟩) = ht := by rw [HT.out]; rfl
 rw [e1]
 exact Kn
end Go.Proofs.YtjgegohidhdbpaaGreatDoor
