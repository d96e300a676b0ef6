/- strings.Builder: what its writing methods leave, at this program. -/
import Derived.Test.YtgllmhheahlpjaaGreatDoorJRxW
import Derived.Lib.FrozenHead2
import Derived.Lib.OthersKept
set_option linter.unusedVariables false
set_option linter.unusedSimpArgs false
set_option maxRecDepth 100000
set_option maxHeartbeats 40000000
namespace Go.Proofs.YtgllmhheahlpjaaGreatDoor
open Go.RowKit
theorem sizeSB : (Tryz.prog.info? 127).map (fun i => i.size) = some 2 := by kernel_rfl
theorem check_fresh (b : Nat) (w : World) (h0 : w.cell? ⟨b, 0, none⟩ = some (.pointer none)) (hsh : w.shape? b = some (127, 2)) (hfz : w.frozen? ⟨b, 0, none⟩ = false) :
  Calls Tryz.prog 125 #[.pointer (some ⟨b, 0, none⟩)] w fun e w' => e = .returned (.tuple #[]) ∧ w' = w.setCell ⟨b, 0, none⟩ (.pointer (some ⟨b, 0, none⟩)) := by
 obtain ⟨j, hj, hjs⟩ := Option.map_eq_some_iff.1 sizeSB
 go_enter Tryz.func125, Tryz.ntmps125
 go_wp2
 rw [Lib.run_to_unsafe w ⟨b, 0, none⟩ Tryz.underlying124 Tryz.underlying181 hj (by rw [hjs]; decide) hsh (Nat.zero_lt_succ 1)]
 simp only [Result.andThen]
 rw [Oper.upon_value]
 go_wp2
 rw [run_callFunc_extern Tryz.func146 (by kernel_rfl) (by kernel_rfl) (by kernel_rfl) (e := Extern.AbiNoEscape.same) (by kernel_rfl)]
 rw [Lib.run_noEscape]
 simp only [Result.andThen]
 rw [Oper.upon_value]
 go_wp2
 rw [Lib.run_from_unsafe w ⟨b, 0, none⟩ Tryz.underlying181 Tryz.underlying124 hj hsh (by kernel_rfl)]
 simp only [Result.andThen]
 rw [Oper.upon_value]
 go_wp2
 go_end0
 exact ⟨rfl, rfl⟩
theorem check_used (b : Nat) (w : World) (h0 : w.cell? ⟨b, 0, none⟩ = some (.pointer (some ⟨b, 0, none⟩))) :
  Calls Tryz.prog 125 #[.pointer (some ⟨b, 0, none⟩)] w fun e w' => e = .returned (.tuple #[]) ∧ w' = w := by
 obtain ⟨j, hj, _⟩ := Option.map_eq_some_iff.1 sizeSB
 go_enter Tryz.func125, Tryz.ntmps125
 go_wp2
 rw [Lib.run_neq_ptr_same w _ Tryz.underlying124 hj]
 go_wp2
 go_end0
 exact ⟨rfl, rfl⟩
def SB (B b : Nat) (bs : List Value) (w : World) : Prop := Lib.IsBuilderF 127 5 B b bs w
def SK (B b : Nat) (w w' : World) : Prop := Below B w w' ∧ Lib.OthersKept 5 (some b) w w'
theorem check_c (B b : Nat) (bs : List Value) (w : World) (h : SB B b bs w) :
  Calls Tryz.prog 125 #[.pointer (some ⟨b, 0, none⟩)] w fun e w' => e = .returned (.tuple #[]) ∧ Lib.BuilderAtF 127 5 B b (.pointer (some ⟨b, 0, none⟩)) bs w' ∧ SK B b w w' := by
 rcases h with h | h
 ·refine (check_fresh b w h.cell0 h.shape h.frozen0).mono ?_
  rintro e w' ⟨rfl, rfl⟩
  exact ⟨rfl, h.used _, (Below.refl B w).setCell (p := ⟨b, 0, none⟩) h.1 _, (Lib.OthersKept.refl _ _ w).setCell ⟨b, 0, none⟩ rfl _⟩
 ·refine (check_used b w h.cell0).mono ?_
  rintro e w' ⟨rfl, rfl⟩
  exact ⟨rfl, h, Below.refl B _, Lib.OthersKept.refl _ _ _⟩
theorem wstr_c (B b : Nat) (bs : List Value) (s : ByteArray) (w : World) (h : SB B b bs w) (hlen : bs.length + s.size ≤ 140737488355328) (hBw : B ≤ w.heap.size) :
  Calls Tryz.prog 100 #[.pointer (some ⟨b, 0, none⟩), .string s] w fun e w' => e = .returned (.tuple #[.int .i64 s.size, .nilIface]) ∧ SB B b (bs ++ Lib.strCells s) w' ∧ SK B b w w' := by
 obtain ⟨i0, hi, hz0, hz1, hz2⟩ := info_parts infoU8
 have CK := Lib.hid (check_c B b bs w h)
 go_enter Tryz.func100, Tryz.ntmps100
 go_wp2_with fail
 refine CK.out.mono ?_
 rintro e w1 ⟨rfl, h1, hb1, hk1⟩
 obtain ⟨hB, v, hbk, hown, hne⟩ := h1
 have c1 : w1.cell? ⟨b, 1, none⟩ = some v := by rw [Lib.cell_of_heap hbk]; rfl
 go_wp2_with (at_builtin; refine Lib.wpList_append_own_stringF _ rfl _ _ 125 9 rfl B 5 i0 Tryz.underlying125 Tryz.underlying9 hi hz0 hz1 hz2 _ _ _ rfl hown s rfl ?c3 ?c4 ?c5 ?_)
 case c3 => unfold maxLen; omega
 case c4 => omega
 case c5 => have := hb1.size; omega
 intro v' w2 hown' hgrow _
 have hlt : b < w1.heap.size := (Array.getElem?_eq_some_iff.1 hbk).1
 have hb2 : w2.heap[b]? = some (.cells #[.pointer (some ⟨b, 0, none⟩), v] 127 (0, 0)) := by
  rw [hgrow.block b hlt (fun e => hne e.symm)]
  exact hbk
 have d1 : w2.cell? ⟨b, 1, none⟩ = some v := by rw [Lib.cell_of_heap hb2]; rfl
 have f1 : w2.frozen? ⟨b, 1, none⟩ = false := Lib.frozen_of_heap hb2 1
 obtain ⟨ao, n', cap, rfl⟩ : ∃ ao n' cap, v' = .slice ao n' cap := by
  rcases hown'.2 with ⟨hv, _⟩ | ⟨g, cap, cur, fz, hv, _⟩
  ·exact ⟨_, _, _, hv⟩
  ·exact ⟨_, _, _, hv⟩
 go_wp2
 go_ret2
 refine ⟨rfl, .inr ?_, ?_, (hk1.grown hgrow (Lib.ownsRowF_kind hown)).setCell ⟨b, 1, none⟩ rfl _⟩
 ·exact Lib.BuilderAtF.put (T := 127) (e := 5) hB hb2 (bs' := bs ++ Lib.strCells s) (by simpa [Lib.strCells_length] using hown') (by decide)
 ·exact (hb1.grown hgrow (by have := hb1.size; omega) (fun k hk => (hown.lt k hk).1)).setCell (p := ⟨b, 1, none⟩) hB _
theorem wbyte_c (B b : Nat) (bs : List Value) (c : Int) (w : World) (h : SB B b bs w) (hlen : bs.length + 1 ≤ 140737488355328) (hBw : B ≤ w.heap.size) :
  Calls Tryz.prog 102 #[.pointer (some ⟨b, 0, none⟩), .int .u8 c] w fun e w' => e = .returned .nilIface ∧ SB B b (bs ++ [.int .u8 c]) w' ∧ SK B b w w' := by
 obtain ⟨i0, hi, hz0, hz1, hz2⟩ := info_parts infoU8
 have CK := Lib.hid (check_c B b bs w h)
 go_enter Tryz.func102, Tryz.ntmps102
 go_wp2_with fail
 refine CK.out.mono ?_
 rintro e w1 ⟨rfl, h1, hb1, hk1⟩
 obtain ⟨hB, v, hbk, hown, hne⟩ := h1
 have c1 : w1.cell? ⟨b, 1, none⟩ = some v := by rw [Lib.cell_of_heap hbk]; rfl
 have hsz1 := hb1.size
 go_wp2_with (at_builtin; refine wpList_append_ownF _ rfl _ _ 125 rfl B 5 i0 (.int .u8 0) 1 1 Tryz.underlying125 hi hz0 hz1 hz2 rfl (by decide) _ _ _ rfl (hown.alloc _) ⟨w1.heap.size, 0, none⟩ 1 1 [.int .u8 c] rfl rfl ?c1 ?c2 ?c3 ?c4 ?c5 ?_)
 case c1 =>
  intro j u hj
  rw [Addr.add_lit, Nat.zero_add, cell_of _ _ _ _ (heap_new w1 (.cells #[.int .u8 c] 5))]
  simpa using hj
 case c2 => intro u hu; simp at hu; subst hu; rfl
 case c3 => unfold maxLen; omega
 case c4 => omega
 case c5 => simp; omega
 intro v' w2 hown' hgrow _
 have hlt : b < w1.heap.size := (Array.getElem?_eq_some_iff.1 hbk).1
 have hb2 : w2.heap[b]? = some (.cells #[.pointer (some ⟨b, 0, none⟩), v] 127 (0, 0)) := by
  rw [hgrow.block b (by simp; omega) (fun e => hne e.symm), heap_alloc_lt _ _ _ hlt]
  exact hbk
 have d1 : w2.cell? ⟨b, 1, none⟩ = some v := by rw [Lib.cell_of_heap hb2]; rfl
 have f1 : w2.frozen? ⟨b, 1, none⟩ = false := Lib.frozen_of_heap hb2 1
 obtain ⟨g, cap, rfl⟩ : ∃ g cap, v' = .slice (some ⟨g, 0, none⟩) (bs.length + 1) cap := by
  rcases hown'.2 with ⟨_, h0⟩ | ⟨g, cap, cur, fz, hv, _⟩
  ·omega
  ·exact ⟨g, cap, hv⟩
 go_wp2
 go_ret
 refine ⟨rfl, .inr ?_, ?_, ((hk1.alloc _).grown hgrow (Lib.ownsRowF_kind (hown.alloc _))).setCell ⟨b, 1, none⟩ rfl _⟩
 ·exact Lib.BuilderAtF.put (T := 127) (e := 5) hB hb2 (bs' := bs ++ [.int .u8 c]) (by simpa using hown') (by decide)
 ·exact ((hb1.alloc (by omega) _).grown hgrow (by simp; omega) (fun k hk => (hown.lt k hk).1)).setCell (p := ⟨b, 1, none⟩) hB _
end Go.Proofs.YtgllmhheahlpjaaGreatDoor
namespace Go.Proofs.YtgllmhheahlpjaaGreatDoor
open Go.RowKit
theorem BuilderAtF.below {T e : TypeId} {B b : Nat} {p : Value} {bs : List Value} {w w' : World} (h : Lib.BuilderAtF T e B b p bs w) (hB : Below w.heap.size w w') : Lib.BuilderAtF T e B b p bs w' := by
 obtain ⟨h1, v, h2, h3, h4⟩ := h
 refine ⟨h1, v, (hB.block b (Array.getElem?_eq_some_iff.1 h2).1).trans h2, ⟨h3.1, ?_⟩, h4⟩
 rcases h3.2 with h | ⟨g, cap, cur, fz, e1, e2, e3, r⟩
 ·exact .inl h
 ·exact .inr ⟨g, cap, cur, fz, e1, e2, (hB.block g (Array.getElem?_eq_some_iff.1 e3).1).trans e3, r⟩
theorem SB.below {B b : Nat} {bs : List Value} {w w' : World} (h : SB B b bs w) (hB : Below w.heap.size w w') : SB B b bs w' := h.imp (fun x => BuilderAtF.below x hB) (fun x => BuilderAtF.below x hB)
theorem SK.of {B b : Nat} {w w' : World} (hB : Below w.heap.size w w') (h : B ≤ w.heap.size) : SK B b w w' :=
 ⟨hB.mono h, fun k o hk _ _ => (hB.block k (Array.getElem?_eq_some_iff.1 hk).1).trans hk⟩
theorem SK.trans {B b : Nat} {w w' w2 : World} (h : SK B b w w') (h' : SK B b w' w2) : SK B b w w2 := ⟨h.1.trans h'.1, h.2.trans h'.2⟩
structure TEnv (L C b o n cap : Nat) (xs : List Nd) (bs : List Value) (w : World) : Prop where
 lt : b < L
 lc : L < C
 l : w.heap[L]? = some (.cells #[.slice (some ⟨b, o, none⟩) n cap] 22 (0, 0))
 sb : SB L C bs w
 f : w.heap[C + 1]? = some (.cells #[.func (.func 99) #[] #[.pointer (some ⟨L, 0, none⟩), .pointer (some ⟨C, 0, none⟩), .pointer (some ⟨C + 1, 0, none⟩)]] 128 (0, 0))
 x : NodesAt w b o xs
 fit : ∀ w', Below L w w' → Fit3 w'
section
variable {L C b o n cap : Nat} {xs : List Nd} {bs bs' : List Value} {w w' : World}
theorem TEnv.size (h : TEnv L C b o n cap xs bs w) : C + 2 ≤ w.heap.size := (Array.getElem?_eq_some_iff.1 h.f).1
theorem TEnv.below (h : TEnv L C b o n cap xs bs w) (hB : Below w.heap.size w w') : TEnv L C b o n cap xs bs w' := by
 have hs := h.size
 have lc := h.lc
 have hB' : Below L w w' := hB.mono (by omega)
 exact ⟨h.lt, h.lc, (hB.block _ (by omega)).trans h.l, h.sb.below hB, (hB.block _ (by omega)).trans h.f, h.x.below hB h.x.lt, fun w2 h2 => h.fit w2 (hB'.trans h2)⟩
theorem TEnv.sk (h : TEnv L C b o n cap xs bs w) (hk : SK L C w w') (sb : SB L C bs' w') : TEnv L C b o n cap xs bs' w' :=
 ⟨h.lt, h.lc, hk.2 _ _ h.l (fun e => by have := Option.some.inj e; have := h.lc; omega) (fun c fz e => by injection e with _ e2; exact absurd e2 (by decide)), sb,
  hk.2 _ _ h.f (fun e => by have := Option.some.inj e; omega) (fun c fz e => by injection e with _ e2; exact absurd e2 (by decide)), h.x.below hk.1 h.lt, fun w2 h2 => h.fit w2 (hk.1.trans h2)⟩
theorem TEnv.cl (h : TEnv L C b o n cap xs bs w) : w.cell? ⟨L, 0, none⟩ = some (.slice (some ⟨b, o, none⟩) n cap) := by simp [World.cell?, h.l]
theorem TEnv.cf (h : TEnv L C b o n cap xs bs w) : w.cell? ⟨C + 1, 0, none⟩ = some (.func (.func 99) #[] #[.pointer (some ⟨L, 0, none⟩), .pointer (some ⟨C, 0, none⟩), .pointer (some ⟨C + 1, 0, none⟩)]) := by simp [World.cell?, h.f]
theorem NB.sk {c : Nat} {x : Nd} (h : NB w c x) (hk : SK L C w w') (h1 : c ≠ C) : NB w' c x :=
 ⟨hk.2 _ _ h.heap (fun e => h1 (Option.some.inj e)) (fun c fz e => by injection e with _ e2; exact absurd e2 (by decide))⟩
end
def Writes (L C b o0 n cap : Nat) (xs : List Nd) (t : T) : Prop := ∀ (o k : Nat) (bs : List Value) (w : World), T.At (fun i => xs[i]?) t o → o + t.size = k + 1 → k < n → bs.length + (text t).length ≤ 100000000 → TEnv L C b o0 n cap xs bs w →
 Calls Tryz.prog 99 #[.int .i64 (k : Int), .pointer (some ⟨L, 0, none⟩), .pointer (some ⟨C, 0, none⟩), .pointer (some ⟨C + 1, 0, none⟩)] w fun e w' => e = .returned (.tuple #[]) ∧ TEnv L C b o0 n cap xs (bs ++ Lib.byteCells (text t)) w' ∧ SK L C w w'
theorem writes_leaf0 (L C b o0 n cap : Nat) (xs : List Nd) (hlen0 : xs.length = n) (hn : n ≤ 120) (hfit : ∀ (i : Nat) (x : Nd), xs[i]? = some x → x.Fits) (w0 w1 w2 w3 : Nat) (xa xb m M xn : Int) : Writes L C b o0 n cap xs (T.leaf ⟨0, w0, w1, w2, w3, xa, xb, m, M, xn⟩) := by
 intro o k bs w ha he hk hlen hw
 have hr := ha.root
 rw [show o + (T.leaf ⟨0, w0, w1, w2, w3, xa, xb, m, M, xn⟩).size - 1 = k by omega] at hr
 have hfx := hfit k _ hr
 have ha1 := Lib.hid ha
 clear ha
 simp only [T.root] at hr hfx
 have lw := hw.size
 have lb := hw.lt
 have lc := hw.lc
 have cl := hw.cl
 have hcell := hw.x.cell k _ hr
 have d0 : w.cell? ⟨b, o0 + k * 10, none⟩ = some (.int .i64 0) := hcell 0 _ rfl
 have d1 : w.cell? ⟨b, o0 + k * 10 + 1, none⟩ = some (.int .u64 w0) := hcell 1 _ rfl
 have d2 : w.cell? ⟨b, o0 + k * 10 + 2, none⟩ = some (.int .u64 w1) := hcell 2 _ rfl
 have d3 : w.cell? ⟨b, o0 + k * 10 + 3, none⟩ = some (.int .u64 w2) := hcell 3 _ rfl
 have d4 : w.cell? ⟨b, o0 + k * 10 + 4, none⟩ = some (.int .u64 w3) := hcell 4 _ rfl
 have d5 : w.cell? ⟨b, o0 + k * 10 + 5, none⟩ = some (.int .i64 xa) := hcell 5 _ rfl
 have d6 : w.cell? ⟨b, o0 + k * 10 + 6, none⟩ = some (.int .i64 xb) := hcell 6 _ rfl
 have d7 : w.cell? ⟨b, o0 + k * 10 + 7, none⟩ = some (.int .i64 m) := hcell 7 _ rfl
 have d8 : w.cell? ⟨b, o0 + k * 10 + 8, none⟩ = some (.int .i64 M) := hcell 8 _ rfl
 have d9 : w.cell? ⟨b, o0 + k * 10 + 9, none⟩ = some (.int .i64 xn) := hcell 9 _ rfl
 have bA := (Below.refl w.heap.size w).alloc (Nat.le_refl _) (.cells #[.int .i64 0, .int .u64 w0, .int .u64 w1, .int .u64 w2, .int .u64 w3, .int .i64 xa, .int .i64 xb, .int .i64 m, .int .i64 M, .int .i64 xn] 60)
 have hwA := hw.below bA
 have X1 := NB.new w ⟨0, w0, w1, w2, w3, xa, xb, m, M, xn⟩
 have HH := Lib.hid (head_k 0 w0 w1 w2 w3 xa xb m M xn hfx (by omega) _ (hw.fit _ (bA.mono (by omega))))
 obtain ⟨ht, hht⟩ : ∃ l, l = headText ⟨0, w0, w1, w2, w3, xa, xb, m, M, xn⟩ := ⟨_, rfl⟩
 rw [← hht] at HH
 have hlh : bs.length + ht.length ≤ 100000000 := by rw [hht, show headText ⟨0, w0, w1, w2, w3, xa, xb, m, M, xn⟩ = text (T.leaf ⟨0, w0, w1, w2, w3, xa, xb, m, M, xn⟩) from rfl]; exact hlen
 have HT := Lib.hid hht
 clear hht hcell
 obtain ⟨S, hS⟩ : ∃ S : ByteArray, S = ⟨ht.toArray⟩ := ⟨_, rfl⟩
 have hSs : S.size = ht.length := by rw [hS]; simp [ByteArray.size]
 have hSc : Lib.strCells S = Lib.byteCells ht := by rw [hS]; rfl
 rw [← hS] at HH
 clear hS
 go_enter Tryz.func99, Tryz.ntmps99
 go_wp2_with fail
 refine HH.out.mono ?_
 rintro e W1 ⟨rfl, hB1⟩
 have hw1 := hwA.below hB1
 have k1 : SK L C w W1 := (SK.of bA (by omega)).trans (SK.of hB1 (by have := hwA.size; omega))
 have WW := Lib.hid (wstr_c L C bs S W1 hw1.sb (by omega) (by have := hw1.size; omega))
 go_wp2_with fail
 refine WW.out.mono ?_
 rintro e W2 ⟨rfl, hs2, k2⟩
 rw [hSc] at hs2
 have hw2 := hw1.sk k2 hs2
 have k12 := k1.trans k2
 have X2 := (X1.below hB1 X1.lt).sk k2 (by omega)
 have y0 : W2.cell? ⟨w.heap.size, 0, none⟩ = some (.int .i64 0) := X2.c 0
 go_wp2
 go_end0
 refine ⟨rfl, ?_, k12⟩
 have e1 : text (T.leaf ⟨0, w0, w1, w2, w3, xa, xb, m, M, xn⟩) = ht := by rw [HT.out]; rfl
 rw [e1]
 exact hw2
theorem writes_leaf1 (L C b o0 n cap : Nat) (xs : List Nd) (hlen0 : xs.length = n) (hn : n ≤ 120) (hfit : ∀ (i : Nat) (x : Nd), xs[i]? = some x → x.Fits) (w0 w1 w2 w3 : Nat) (xa xb m M xn : Int) : Writes L C b o0 n cap xs (T.leaf ⟨1, w0, w1, w2, w3, xa, xb, m, M, xn⟩) := by
 intro o k bs w ha he hk hlen hw
 have hr := ha.root
 rw [show o + (T.leaf ⟨1, w0, w1, w2, w3, xa, xb, m, M, xn⟩).size - 1 = k by omega] at hr
 have hfx := hfit k _ hr
 have ha1 := Lib.hid ha
 clear ha
 simp only [T.root] at hr hfx
 have lw := hw.size
 have lb := hw.lt
 have lc := hw.lc
 have cl := hw.cl
 have hcell := hw.x.cell k _ hr
 have d0 : w.cell? ⟨b, o0 + k * 10, none⟩ = some (.int .i64 1) := hcell 0 _ rfl
 have d1 : w.cell? ⟨b, o0 + k * 10 + 1, none⟩ = some (.int .u64 w0) := hcell 1 _ rfl
 have d2 : w.cell? ⟨b, o0 + k * 10 + 2, none⟩ = some (.int .u64 w1) := hcell 2 _ rfl
 have d3 : w.cell? ⟨b, o0 + k * 10 + 3, none⟩ = some (.int .u64 w2) := hcell 3 _ rfl
 have d4 : w.cell? ⟨b, o0 + k * 10 + 4, none⟩ = some (.int .u64 w3) := hcell 4 _ rfl
 have d5 : w.cell? ⟨b, o0 + k * 10 + 5, none⟩ = some (.int .i64 xa) := hcell 5 _ rfl
 have d6 : w.cell? ⟨b, o0 + k * 10 + 6, none⟩ = some (.int .i64 xb) := hcell 6 _ rfl
 have d7 : w.cell? ⟨b, o0 + k * 10 + 7, none⟩ = some (.int .i64 m) := hcell 7 _ rfl
 have d8 : w.cell? ⟨b, o0 + k * 10 + 8, none⟩ = some (.int .i64 M) := hcell 8 _ rfl
 have d9 : w.cell? ⟨b, o0 + k * 10 + 9, none⟩ = some (.int .i64 xn) := hcell 9 _ rfl
 have bA := (Below.refl w.heap.size w).alloc (Nat.le_refl _) (.cells #[.int .i64 1, .int .u64 w0, .int .u64 w1, .int .u64 w2, .int .u64 w3, .int .i64 xa, .int .i64 xb, .int .i64 m, .int .i64 M, .int .i64 xn] 60)
 have hwA := hw.below bA
 have X1 := NB.new w ⟨1, w0, w1, w2, w3, xa, xb, m, M, xn⟩
 have HH := Lib.hid (head_k 1 w0 w1 w2 w3 xa xb m M xn hfx (by omega) _ (hw.fit _ (bA.mono (by omega))))
 obtain ⟨ht, hht⟩ : ∃ l, l = headText ⟨1, w0, w1, w2, w3, xa, xb, m, M, xn⟩ := ⟨_, rfl⟩
 rw [← hht] at HH
 have hlh : bs.length + ht.length ≤ 100000000 := by rw [hht, show headText ⟨1, w0, w1, w2, w3, xa, xb, m, M, xn⟩ = text (T.leaf ⟨1, w0, w1, w2, w3, xa, xb, m, M, xn⟩) from rfl]; exact hlen
 have HT := Lib.hid hht
 clear hht hcell
 obtain ⟨S, hS⟩ : ∃ S : ByteArray, S = ⟨ht.toArray⟩ := ⟨_, rfl⟩
 have hSs : S.size = ht.length := by rw [hS]; simp [ByteArray.size]
 have hSc : Lib.strCells S = Lib.byteCells ht := by rw [hS]; rfl
 rw [← hS] at HH
 clear hS
 go_enter Tryz.func99, Tryz.ntmps99
 go_wp2_with fail
 refine HH.out.mono ?_
 rintro e W1 ⟨rfl, hB1⟩
 have hw1 := hwA.below hB1
 have k1 : SK L C w W1 := (SK.of bA (by omega)).trans (SK.of hB1 (by have := hwA.size; omega))
 have WW := Lib.hid (wstr_c L C bs S W1 hw1.sb (by omega) (by have := hw1.size; omega))
 go_wp2_with fail
 refine WW.out.mono ?_
 rintro e W2 ⟨rfl, hs2, k2⟩
 rw [hSc] at hs2
 have hw2 := hw1.sk k2 hs2
 have k12 := k1.trans k2
 have X2 := (X1.below hB1 X1.lt).sk k2 (by omega)
 have y0 : W2.cell? ⟨w.heap.size, 0, none⟩ = some (.int .i64 1) := X2.c 0
 go_wp2
 go_end0
 refine ⟨rfl, ?_, k12⟩
 have e1 : text (T.leaf ⟨1, w0, w1, w2, w3, xa, xb, m, M, xn⟩) = ht := by rw [HT.out]; rfl
 rw [e1]
 exact hw2
theorem writes_leaf2 (L C b o0 n cap : Nat) (xs : List Nd) (hlen0 : xs.length = n) (hn : n ≤ 120) (hfit : ∀ (i : Nat) (x : Nd), xs[i]? = some x → x.Fits) (w0 w1 w2 w3 : Nat) (xa xb m M xn : Int) : Writes L C b o0 n cap xs (T.leaf ⟨2, w0, w1, w2, w3, xa, xb, m, M, xn⟩) := by
 intro o k bs w ha he hk hlen hw
 have hr := ha.root
 rw [show o + (T.leaf ⟨2, w0, w1, w2, w3, xa, xb, m, M, xn⟩).size - 1 = k by omega] at hr
 have hfx := hfit k _ hr
 have ha1 := Lib.hid ha
 clear ha
 simp only [T.root] at hr hfx
 have lw := hw.size
 have lb := hw.lt
 have lc := hw.lc
 have cl := hw.cl
 have hcell := hw.x.cell k _ hr
 have d0 : w.cell? ⟨b, o0 + k * 10, none⟩ = some (.int .i64 2) := hcell 0 _ rfl
 have d1 : w.cell? ⟨b, o0 + k * 10 + 1, none⟩ = some (.int .u64 w0) := hcell 1 _ rfl
 have d2 : w.cell? ⟨b, o0 + k * 10 + 2, none⟩ = some (.int .u64 w1) := hcell 2 _ rfl
 have d3 : w.cell? ⟨b, o0 + k * 10 + 3, none⟩ = some (.int .u64 w2) := hcell 3 _ rfl
 have d4 : w.cell? ⟨b, o0 + k * 10 + 4, none⟩ = some (.int .u64 w3) := hcell 4 _ rfl
 have d5 : w.cell? ⟨b, o0 + k * 10 + 5, none⟩ = some (.int .i64 xa) := hcell 5 _ rfl
 have d6 : w.cell? ⟨b, o0 + k * 10 + 6, none⟩ = some (.int .i64 xb) := hcell 6 _ rfl
 have d7 : w.cell? ⟨b, o0 + k * 10 + 7, none⟩ = some (.int .i64 m) := hcell 7 _ rfl
 have d8 : w.cell? ⟨b, o0 + k * 10 + 8, none⟩ = some (.int .i64 M) := hcell 8 _ rfl
 have d9 : w.cell? ⟨b, o0 + k * 10 + 9, none⟩ = some (.int .i64 xn) := hcell 9 _ rfl
 have bA := (Below.refl w.heap.size w).alloc (Nat.le_refl _) (.cells #[.int .i64 2, .int .u64 w0, .int .u64 w1, .int .u64 w2, .int .u64 w3, .int .i64 xa, .int .i64 xb, .int .i64 m, .int .i64 M, .int .i64 xn] 60)
 have hwA := hw.below bA
 have X1 := NB.new w ⟨2, w0, w1, w2, w3, xa, xb, m, M, xn⟩
 have HH := Lib.hid (head_k 2 w0 w1 w2 w3 xa xb m M xn hfx (by omega) _ (hw.fit _ (bA.mono (by omega))))
 obtain ⟨ht, hht⟩ : ∃ l, l = headText ⟨2, w0, w1, w2, w3, xa, xb, m, M, xn⟩ := ⟨_, rfl⟩
 rw [← hht] at HH
 have hlh : bs.length + ht.length ≤ 100000000 := by rw [hht, show headText ⟨2, w0, w1, w2, w3, xa, xb, m, M, xn⟩ = text (T.leaf ⟨2, w0, w1, w2, w3, xa, xb, m, M, xn⟩) from rfl]; exact hlen
 have HT := Lib.hid hht
 clear hht hcell
 obtain ⟨S, hS⟩ : ∃ S : ByteArray, S = ⟨ht.toArray⟩ := ⟨_, rfl⟩
 have hSs : S.size = ht.length := by rw [hS]; simp [ByteArray.size]
 have hSc : Lib.strCells S = Lib.byteCells ht := by rw [hS]; rfl
 rw [← hS] at HH
 clear hS
 go_enter Tryz.func99, Tryz.ntmps99
 go_wp2_with fail
 refine HH.out.mono ?_
 rintro e W1 ⟨rfl, hB1⟩
 have hw1 := hwA.below hB1
 have k1 : SK L C w W1 := (SK.of bA (by omega)).trans (SK.of hB1 (by have := hwA.size; omega))
 have WW := Lib.hid (wstr_c L C bs S W1 hw1.sb (by omega) (by have := hw1.size; omega))
 go_wp2_with fail
 refine WW.out.mono ?_
 rintro e W2 ⟨rfl, hs2, k2⟩
 rw [hSc] at hs2
 have hw2 := hw1.sk k2 hs2
 have k12 := k1.trans k2
 have X2 := (X1.below hB1 X1.lt).sk k2 (by omega)
 have y0 : W2.cell? ⟨w.heap.size, 0, none⟩ = some (.int .i64 2) := X2.c 0
 go_wp2
 go_end0
 refine ⟨rfl, ?_, k12⟩
 have e1 : text (T.leaf ⟨2, w0, w1, w2, w3, xa, xb, m, M, xn⟩) = ht := by rw [HT.out]; rfl
 rw [e1]
 exact hw2
theorem writes_leaf3 (L C b o0 n cap : Nat) (xs : List Nd) (hlen0 : xs.length = n) (hn : n ≤ 120) (hfit : ∀ (i : Nat) (x : Nd), xs[i]? = some x → x.Fits) (w0 w1 w2 w3 : Nat) (xa xb m M xn : Int) : Writes L C b o0 n cap xs (T.leaf ⟨3, w0, w1, w2, w3, xa, xb, m, M, xn⟩) := by
 intro o k bs w ha he hk hlen hw
 have hr := ha.root
 rw [show o + (T.leaf ⟨3, w0, w1, w2, w3, xa, xb, m, M, xn⟩).size - 1 = k by omega] at hr
 have hfx := hfit k _ hr
 have ha1 := Lib.hid ha
 clear ha
 simp only [T.root] at hr hfx
 have lw := hw.size
 have lb := hw.lt
 have lc := hw.lc
 have cl := hw.cl
 have hcell := hw.x.cell k _ hr
 have d0 : w.cell? ⟨b, o0 + k * 10, none⟩ = some (.int .i64 3) := hcell 0 _ rfl
 have d1 : w.cell? ⟨b, o0 + k * 10 + 1, none⟩ = some (.int .u64 w0) := hcell 1 _ rfl
 have d2 : w.cell? ⟨b, o0 + k * 10 + 2, none⟩ = some (.int .u64 w1) := hcell 2 _ rfl
 have d3 : w.cell? ⟨b, o0 + k * 10 + 3, none⟩ = some (.int .u64 w2) := hcell 3 _ rfl
 have d4 : w.cell? ⟨b, o0 + k * 10 + 4, none⟩ = some (.int .u64 w3) := hcell 4 _ rfl
 have d5 : w.cell? ⟨b, o0 + k * 10 + 5, none⟩ = some (.int .i64 xa) := hcell 5 _ rfl
 have d6 : w.cell? ⟨b, o0 + k * 10 + 6, none⟩ = some (.int .i64 xb) := hcell 6 _ rfl
 have d7 : w.cell? ⟨b, o0 + k * 10 + 7, none⟩ = some (.int .i64 m) := hcell 7 _ rfl
 have d8 : w.cell? ⟨b, o0 + k * 10 + 8, none⟩ = some (.int .i64 M) := hcell 8 _ rfl
 have d9 : w.cell? ⟨b, o0 + k * 10 + 9, none⟩ = some (.int .i64 xn) := hcell 9 _ rfl
 have bA := (Below.refl w.heap.size w).alloc (Nat.le_refl _) (.cells #[.int .i64 3, .int .u64 w0, .int .u64 w1, .int .u64 w2, .int .u64 w3, .int .i64 xa, .int .i64 xb, .int .i64 m, .int .i64 M, .int .i64 xn] 60)
 have hwA := hw.below bA
 have X1 := NB.new w ⟨3, w0, w1, w2, w3, xa, xb, m, M, xn⟩
 have HH := Lib.hid (head_k 3 w0 w1 w2 w3 xa xb m M xn hfx (by omega) _ (hw.fit _ (bA.mono (by omega))))
 obtain ⟨ht, hht⟩ : ∃ l, l = headText ⟨3, w0, w1, w2, w3, xa, xb, m, M, xn⟩ := ⟨_, rfl⟩
 rw [← hht] at HH
 have hlh : bs.length + ht.length ≤ 100000000 := by rw [hht, show headText ⟨3, w0, w1, w2, w3, xa, xb, m, M, xn⟩ = text (T.leaf ⟨3, w0, w1, w2, w3, xa, xb, m, M, xn⟩) from rfl]; exact hlen
 have HT := Lib.hid hht
 clear hht hcell
 obtain ⟨S, hS⟩ : ∃ S : ByteArray, S = ⟨ht.toArray⟩ := ⟨_, rfl⟩
 have hSs : S.size = ht.length := by rw [hS]; simp [ByteArray.size]
 have hSc : Lib.strCells S = Lib.byteCells ht := by rw [hS]; rfl
 rw [← hS] at HH
 clear hS
 go_enter Tryz.func99, Tryz.ntmps99
 go_wp2_with fail
 refine HH.out.mono ?_
 rintro e W1 ⟨rfl, hB1⟩
 have hw1 := hwA.below hB1
 have k1 : SK L C w W1 := (SK.of bA (by omega)).trans (SK.of hB1 (by have := hwA.size; omega))
 have WW := Lib.hid (wstr_c L C bs S W1 hw1.sb (by omega) (by have := hw1.size; omega))
 go_wp2_with fail
 refine WW.out.mono ?_
 rintro e W2 ⟨rfl, hs2, k2⟩
 rw [hSc] at hs2
 have hw2 := hw1.sk k2 hs2
 have k12 := k1.trans k2
 have X2 := (X1.below hB1 X1.lt).sk k2 (by omega)
 have y0 : W2.cell? ⟨w.heap.size, 0, none⟩ = some (.int .i64 3) := X2.c 0
 go_wp2
 go_end0
 refine ⟨rfl, ?_, k12⟩
 have e1 : text (T.leaf ⟨3, w0, w1, w2, w3, xa, xb, m, M, xn⟩) = ht := by rw [HT.out]; rfl
 rw [e1]
 exact hw2
theorem writes_leaf8 (L C b o0 n cap : Nat) (xs : List Nd) (hlen0 : xs.length = n) (hn : n ≤ 120) (hfit : ∀ (i : Nat) (x : Nd), xs[i]? = some x → x.Fits) (w0 w1 w2 w3 : Nat) (xa xb m M xn : Int) : Writes L C b o0 n cap xs (T.leaf ⟨8, w0, w1, w2, w3, xa, xb, m, M, xn⟩) := by
 intro o k bs w ha he hk hlen hw
 have hr := ha.root
 rw [show o + (T.leaf ⟨8, w0, w1, w2, w3, xa, xb, m, M, xn⟩).size - 1 = k by omega] at hr
 have hfx := hfit k _ hr
 have ha1 := Lib.hid ha
 clear ha
 simp only [T.root] at hr hfx
 have lw := hw.size
 have lb := hw.lt
 have lc := hw.lc
 have cl := hw.cl
 have hcell := hw.x.cell k _ hr
 have d0 : w.cell? ⟨b, o0 + k * 10, none⟩ = some (.int .i64 8) := hcell 0 _ rfl
 have d1 : w.cell? ⟨b, o0 + k * 10 + 1, none⟩ = some (.int .u64 w0) := hcell 1 _ rfl
 have d2 : w.cell? ⟨b, o0 + k * 10 + 2, none⟩ = some (.int .u64 w1) := hcell 2 _ rfl
 have d3 : w.cell? ⟨b, o0 + k * 10 + 3, none⟩ = some (.int .u64 w2) := hcell 3 _ rfl
 have d4 : w.cell? ⟨b, o0 + k * 10 + 4, none⟩ = some (.int .u64 w3) := hcell 4 _ rfl
 have d5 : w.cell? ⟨b, o0 + k * 10 + 5, none⟩ = some (.int .i64 xa) := hcell 5 _ rfl
 have d6 : w.cell? ⟨b, o0 + k * 10 + 6, none⟩ = some (.int .i64 xb) := hcell 6 _ rfl
 have d7 : w.cell? ⟨b, o0 + k * 10 + 7, none⟩ = some (.int .i64 m) := hcell 7 _ rfl
 have d8 : w.cell? ⟨b, o0 + k * 10 + 8, none⟩ = some (.int .i64 M) := hcell 8 _ rfl
 have d9 : w.cell? ⟨b, o0 + k * 10 + 9, none⟩ = some (.int .i64 xn) := hcell 9 _ rfl
 have bA := (Below.refl w.heap.size w).alloc (Nat.le_refl _) (.cells #[.int .i64 8, .int .u64 w0, .int .u64 w1, .int .u64 w2, .int .u64 w3, .int .i64 xa, .int .i64 xb, .int .i64 m, .int .i64 M, .int .i64 xn] 60)
 have hwA := hw.below bA
 have X1 := NB.new w ⟨8, w0, w1, w2, w3, xa, xb, m, M, xn⟩
 have HH := Lib.hid (head_k 8 w0 w1 w2 w3 xa xb m M xn hfx (by omega) _ (hw.fit _ (bA.mono (by omega))))
 obtain ⟨ht, hht⟩ : ∃ l, l = headText ⟨8, w0, w1, w2, w3, xa, xb, m, M, xn⟩ := ⟨_, rfl⟩
 rw [← hht] at HH
 have hlh : bs.length + ht.length ≤ 100000000 := by rw [hht, show headText ⟨8, w0, w1, w2, w3, xa, xb, m, M, xn⟩ = text (T.leaf ⟨8, w0, w1, w2, w3, xa, xb, m, M, xn⟩) from rfl]; exact hlen
 have HT := Lib.hid hht
 clear hht hcell
 obtain ⟨S, hS⟩ : ∃ S : ByteArray, S = ⟨ht.toArray⟩ := ⟨_, rfl⟩
 have hSs : S.size = ht.length := by rw [hS]; simp [ByteArray.size]
 have hSc : Lib.strCells S = Lib.byteCells ht := by rw [hS]; rfl
 rw [← hS] at HH
 clear hS
 go_enter Tryz.func99, Tryz.ntmps99
 go_wp2_with fail
 refine HH.out.mono ?_
 rintro e W1 ⟨rfl, hB1⟩
 have hw1 := hwA.below hB1
 have k1 : SK L C w W1 := (SK.of bA (by omega)).trans (SK.of hB1 (by have := hwA.size; omega))
 have WW := Lib.hid (wstr_c L C bs S W1 hw1.sb (by omega) (by have := hw1.size; omega))
 go_wp2_with fail
 refine WW.out.mono ?_
 rintro e W2 ⟨rfl, hs2, k2⟩
 rw [hSc] at hs2
 have hw2 := hw1.sk k2 hs2
 have k12 := k1.trans k2
 have X2 := (X1.below hB1 X1.lt).sk k2 (by omega)
 have y0 : W2.cell? ⟨w.heap.size, 0, none⟩ = some (.int .i64 8) := X2.c 0
 go_wp2
 go_end0
 refine ⟨rfl, ?_, k12⟩
 have e1 : text (T.leaf ⟨8, w0, w1, w2, w3, xa, xb, m, M, xn⟩) = ht := by rw [HT.out]; rfl
 rw [e1]
 exact hw2
end Go.Proofs.YtgllmhheahlpjaaGreatDoor
