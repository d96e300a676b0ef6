/- hexOf. -/
import Derived.Test.YtjgegohidhdbpaaGreatDoorJRxU
import Derived.Test.YtjgegohidhdbpaaGreatDoorJSetJ
import Derived.Deep.AppendLies
import Derived.Test.YtjgegohidhdbpaaGreatDoorJShelf
import Derived.Lib.AppendIntMem
import Derived.Lib.ItoaLen
import Derived.Lib.SmallJoins
import Derived.Lib.IndexMore
import Derived.Lib.IndexBytes
open Go.Proofs.Tryz
set_option linter.unusedVariables false
set_option linter.unusedSimpArgs false
set_option maxRecDepth 100000
set_option maxHeartbeats 40000000
namespace Go.Proofs.YtjgegohidhdbpaaGreatDoor
open Go.RowKit Go.Lib
theorem GV (q : Nat) (hq : q < 16) (w : World) : (Instr.index 9 (.string ⟨#[48, 49, 50, 51, 52, 53, 54, 55, 56, 57, 97, 98, 99, 100, 101, 102]⟩) (.int .u8 (q : Int))).run prog w = .ok (.int .u8 ((dig q).toNat : Int)) w := by
 rcases (by omega : q = 0 ∨ q = 1 ∨ q = 2 ∨ q = 3 ∨ q = 4 ∨ q = 5 ∨ q = 6 ∨ q = 7 ∨ q = 8 ∨ q = 9 ∨ q = 10 ∨ q = 11 ∨ q = 12 ∨ q = 13 ∨ q = 14 ∨ q = 15) with rfl | rfl | rfl | rfl | rfl | rfl | rfl | rfl | rfl | rfl | rfl | rfl | rfl | rfl | rfl | rfl <;> kernel_rfl
def VD (s : ByteArray) (k : Nat) : List Int := (Zi (s.data.toList.take k)).map fun c => (c.toNat : Int)
theorem X0 (l : List UInt8) : (Zi l).length = 2 * l.length := by
 induction l with
 | nil => rfl
 | cons a l ih => simp only [Zi, List.flatMap_cons, List.length_append, List.length_cons, List.length_nil] at *; omega
theorem qck (s : ByteArray) (k : Nat) (h : k ≤ s.size) : (VD s k).length = 2 * k := by
 simp only [VD, List.length_map, X0, List.length_take]
 have : s.data.toList.length = s.size := by simp
 omega
theorem qaT (s : ByteArray) (k : Nat) (h : k < s.size) : VD s (k + 1) = VD s k ++ [((dig (s[k].toNat / 16)).toNat : Int), ((dig (s[k].toNat % 16)).toNat : Int)] := by
 have h' : k < s.data.toList.length := by simpa using h
 have e : s[k] = s.data.toList[k] := rfl
 simp only [VD]
 rw [List.take_succ_eq_append_getElem h']
 simp [Zi, e]
theorem vB {P : Program} {o : Oper} {ev : Operand → Value} {x i : Operand} {t : TypeId} {xv iv v : Value} {w : World} (h : (Instr.index t xv iv).run P w = .ok v w) (ho : o.op = .index t x i) (hx : ev x = xv) (hi : ev i = iv) :
  (execOp ev o).run P w = .ok (.value v) w := by
 unfold execOp
 simp only [ho, hx, hi, h, Sem.run_bind, Sem.run_pure, Result.andThen_ok]
theorem qfm (s : ByteArray) (hs : s.size ≤ 1000) (w : World) :
  Calls prog 119 #[.string s] w fun e w' => e = .returned (.string (strOfNums (VD s s.size))) ∧ Below w.heap.size w w' := by
 obtain ⟨i0, hi, QX, kF, vv⟩ := info_parts Jz
 obtain ⟨w1, hr, zq, zM⟩ := run_make_own (P := prog) w w.heap.size 118 5 i0 (.int .u8 0) 1 underlying118 hi QX kF .i64 .i64 (2 * s.size) (by rw [vv]; omega) (by unfold maxLen; omega) (Nat.le_refl _)
 rw [show ((2 * s.size : Nat) : Int) = 2 * (s.size : Int) by omega] at hr
 have XF : Below w.heap.size w w1 := (Below.refl _ w).grown zM (Nat.le_refl _) (fun k e => by cases e)
 go_enter func119, ntmps119
 go_wp2
 clear hr zM
 go_loopw [3, 11] (fun v i wr => ∃ (k : Nat) (v' : Value), v = v' ∧ k ≤ s.size ∧ i = .int .i64 k ∧ wr.ownsRow w.heap.size 5 1 v' (2 * k) ((VD s k).map (Value.int .u8)) ∧ Below w.heap.size w wr) (fun _ i _ => s.size - (RowKit.intOf i).toNat)
 case atStart => exact ⟨0, _, rfl, by omega, rfl, by simpa [VD, Zi] using zq, XF⟩
 case round =>
  clear zq XF
  obtain ⟨k, v, rfl, hk, rfl, zq, hB⟩ := hrel
  by_cases zb : k < s.size
  ·obtain ⟨c, hc⟩ : ∃ c : Nat, c = s[k].toNat := ⟨_, rfl⟩
   have hc256 : c < 256 := by rw [hc]; exact s[k].toNat_lt
   have hx : ∀ w, (Instr.index 9 (.string s) (.int .i64 (k : Int))).run prog w = .ok (.int .u8 (c : Int)) w := fun w => by
    rw [run_index_string (P := prog) w 9 s .i64 (k : Int) underlying9, dif_pos ⟨by omega, by omega⟩]
    simp [hc]
   obtain ⟨q, hq⟩ : ∃ q : Nat, q = c / 16 := ⟨_, rfl⟩
   obtain ⟨m, hm⟩ : ∃ m : Nat, m = c % 16 := ⟨_, rfl⟩
   have h1 : IntKind.u8.wrap ((c : Int) / 16) = (q : Int) := by simp [IntKind.wrap, IntKind.signed, IntKind.bits]; omega
   have h2 : (c : Int).tmod 16 = (m : Int) := by rw [Int.tmod_eq_emod_of_nonneg (by omega)]; omega
   have i1 := GV q (by omega)
   have i2 := GV m (by omega)
   have GP := qaT s k zb
   rw [← hc, ← hq, ← hm] at GP
   obtain ⟨d1, hd1⟩ : ∃ d : Int, d = ((dig q).toNat : Int) := ⟨_, rfl⟩
   obtain ⟨d2, QY⟩ : ∃ d : Int, d = ((dig m).toNat : Int) := ⟨_, rfl⟩
   rw [← hd1] at i1 GP
   rw [← QY] at i2 GP
   have HS1 := ξ GP
   clear GP hd1 QY hq hm hc
   go_wp2_with fail
   refine wp_region_noPanic ?_
   refine wp_region_held_drew (S := fun w' => Below w.heap.size w w') (by kernel_rfl) ?_ (fun qe => ?_)
   ·(try dsimp only); exact hB.drew
   refine wpAnyH_take (i := 0) (v := ?_) rfl (by kernel_rfl) (by kernel_rfl) (by kernel_rfl) (fun _ _ _ h => h) (Or.inl ⟨by kernel_rfl, ?_⟩) (by assumption) ?_
   rotate_left
   ·(intro w qi; (try dsimp only at qi); go_simp); (try with_reducible rfl)
   try simp only [Act.put, jE]
   refine wpAnyH_take (i := 1) (v := ?_) rfl (by kernel_rfl) (by kernel_rfl) (by kernel_rfl) (fun _ _ _ h => h) (Or.inl ⟨by kernel_rfl, ?_⟩) (by assumption) ?_
   rotate_left
   ·(intro w qi; (try dsimp only at qi); go_simp); (try with_reducible rfl)
   try simp only [Act.put, jE]
   refine wpAnyH_take (i := 2) (v := ?_) rfl (by kernel_rfl) (by kernel_rfl) (by kernel_rfl) (fun _ _ _ h => h) (Or.inl ⟨by kernel_rfl, ?_⟩) (by assumption) ?_
   rotate_left
   ·(intro w qi; (try dsimp only at qi); go_simp); (try with_reducible rfl)
   try simp only [Act.put, jE]
   refine wpAnyH_take (i := 3) (v := (.int .u8 (c : Int))) rfl (by kernel_rfl) (by kernel_rfl) (by kernel_rfl) (fun _ _ _ h => h) (Or.inl ⟨by kernel_rfl, fun w _ => vB (hx w) rfl rfl rfl⟩) (by assumption) ?_
   try simp only [Act.put, jE]
   refine wpAnyH_take (i := 4) (v := (.int .u8 (q : Int))) rfl (by kernel_rfl) (by kernel_rfl) (by kernel_rfl) (fun _ _ _ h => h) (Or.inl ⟨by kernel_rfl, fun w _ => by go_simp⟩) (by assumption) ?_
   try simp only [Act.put, jE]
   refine wpAnyH_take (i := 5) (v := (.int .u8 d1)) rfl (by kernel_rfl) (by kernel_rfl) (by kernel_rfl) (fun _ _ _ h => h) (Or.inl ⟨by kernel_rfl, fun w _ => vB (i1 w) rfl rfl rfl⟩) (by assumption) ?_
   try simp only [Act.put, jE]
   refine wpAnyH_take (i := 6) (v := ?_) rfl (by kernel_rfl) (by kernel_rfl) (by kernel_rfl) (fun _ _ _ h => h) (Or.inl ⟨by kernel_rfl, ?_⟩) (by assumption) ?_
   rotate_left
   ·(intro w qi; (try dsimp only at qi); go_simp); (try with_reducible rfl)
   try simp only [Act.put, jE]
   refine wpAnyH_take (i := 7) (v := ?_) rfl (by kernel_rfl) (by kernel_rfl) (by kernel_rfl) (fun _ _ _ h => h) (Or.inl ⟨by kernel_rfl, ?_⟩) (by assumption) ?_
   rotate_left
   ·(intro w qi; (try dsimp only at qi); go_simp); (try with_reducible rfl)
   try simp only [Act.put, jE]
   refine wpAnyH_take (i := 8) (v := (.int .u8 (c : Int))) rfl (by kernel_rfl) (by kernel_rfl) (by kernel_rfl) (fun _ _ _ h => h) (Or.inl ⟨by kernel_rfl, fun w _ => vB (hx w) rfl rfl rfl⟩) (by assumption) ?_
   try simp only [Act.put, jE]
   refine wpAnyH_take (i := 9) (v := (.int .u8 (m : Int))) rfl (by kernel_rfl) (by kernel_rfl) (by kernel_rfl) (fun _ _ _ h => h) (Or.inl ⟨by kernel_rfl, fun w _ => by go_simp⟩) (by assumption) ?_
   try simp only [Act.put, jE]
   refine wpAnyH_take (i := 10) (v := (.int .u8 d2)) rfl (by kernel_rfl) (by kernel_rfl) (by kernel_rfl) (fun _ _ _ h => h) (Or.inl ⟨by kernel_rfl, fun w _ => vB (i2 w) rfl rfl rfl⟩) (by assumption) ?_
   try simp only [Act.put, jE]
   refine wpAnyH_ready (rs := [11]) (by kernel_rfl) (by simp) ?_
   refine AllReadyH.cons rfl (fun K hK => ?_) AllReadyH.nil
   have hbs := hB.size
   go_simp
   refine hK.out _ _ ?_ (fun qe => ?_)
   ·exact (hB.alloc hbs _).drew
   clear hK K
   try simp only [Act.put, jE]
   refine wpAnyH_ready (rs := [12]) (by kernel_rfl) (by simp) ?_
   refine AllReadyH.cons rfl (fun K hK => ?_) AllReadyH.nil
   rw [if_pos (by kernel_rfl)]
   have qkm := (zq.alloc (.cells #[.int .u8 d1, .int .u8 d2] 5))
   have kR : (((wr.alloc (.cells #[.int .u8 d1, .int .u8 d2] 5)).drew)).heap.size = wr.heap.size + 1 := World.size_alloc _ _
   have qhQ : ∀ j u, ([.int .u8 d1, .int .u8 d2] : List Value)[j]? = some u → (((wr.alloc (.cells #[.int .u8 d1, .int .u8 d2] 5)).drew)).cell? ((⟨wr.heap.size, 0, none⟩ : Addr).add j) = some u := fun j u hj => by
    have hh : ((wr.alloc (.cells #[.int .u8 d1, .int .u8 d2] 5)).drew).heap[wr.heap.size]? = some (.cells #[.int .u8 d1, .int .u8 d2] 5 (0, 0)) := zt wr _
    rw [Addr.add_lit]
    rw [Nat.zero_add, cell_of _ _ _ _ hh]
    simpa using hj
   refine wp_append_lies (P := prog) _ _ _ 118 rfl w.heap.size 5 i0 (.int .u8 0) 1 1 underlying118 hi QX kF vv rfl (by decide) _ (2 * k) _ rfl qkm ⟨wr.heap.size, 0, none⟩ 2 2 [.int .u8 d1, .int .u8 d2] rfl rfl qhQ (by simp [Value.oneCell']) (by decide) (by unfold maxLen; omega) (by omega) (by rw [kR]; omega) _ rfl ?_
   intro g cap w3 hown3 hgrow3 hat3 qcl
   have qQ : Below w.heap.size w w3 := ((hB.alloc hbs (.cells #[.int .u8 d1, .int .u8 d2] 5)).drew).grown hgrow3 (by rw [kR]; omega) fun n hn => qcm zq hn
   refine hK.out _ _ qQ (fun qe => ?_)
   clear hK K
   try simp only [Act.put, jE]
   refine wpAnyH_take (i := 13) (v := ?_) rfl (by kernel_rfl) (by kernel_rfl) (by kernel_rfl) (fun _ _ _ h => h) (Or.inl ⟨by kernel_rfl, ?_⟩) (by assumption) ?_
   rotate_left
   ·(intro w qi; (try dsimp only at qi); go_simp); (try with_reducible rfl)
   try simp only [Act.put, jE]
   refine wpAnyH_done (by kernel_rfl) ?_ _
   refine NoPanic.normal ?_
   go_wp2
   go_roundw
   case rel => exact ⟨k + 1, _, rfl, by omega, by simp, by rw [HS1.out, List.map_append]; exact hown3, qQ⟩
   case measure => (simp [RowKit.intOf]) <;> omega
  ·obtain rfl : k = s.size := by omega
   have hcv := jn zq
   go_wp2
   go_ret
   exact ⟨rfl, hB⟩
structure VC (w : World) : Prop where
 fit : Fit w
 pow : Lib.TabIs prog w "internal/strconv.uint64pow10" .u64 Lib.pow10Tab
theorem VC.below {w w' : World} (h : VC w) (hB : Below w.heap.size w w') : VC w' := ⟨h.fit.below hB, Lib.tabBelow_of_tabIs h.pow w' hB⟩
theorem Ux (n : Int) (h0 : -9223372036854775808 ≤ n) (h1 : n ≤ 9223372036854775807) (w : World) (h : VC w) :
  Calls prog 121 #[.int .i64 n] w fun e w' => e = .returned (.string ⟨(itoa n).toArray⟩) ∧ Below w.heap.size w w' := by
 refine (Tryz.strconv_Itoa n h0 h1 w h.pow).mono ?_
 rintro e w' ⟨rfl, k, os, rfl⟩
 exact ⟨rfl, Lib.below_grow _ _ (Nat.le_refl _) k os⟩
def qU (x : Nd) : List UInt8 :=
 if x.kind = 0 then [101] else if x.kind = 1 then 91 :: (Zi (bytesOf x.set).data.toList ++ [93]) else if x.kind = 2 then [94] else if x.kind = 3 then [36] else if x.kind = 4 then [38] else if x.kind = 5 then [124]
 else if x.kind = 6 then 42 :: (itoa x.mn ++ 44 :: (itoa x.mx ++ [59])) else if x.kind = 7 then [40] else 92 :: itoa x.n
theorem yO (kd : Int) (w0 w1 w2 w3 : Nat) (xa xb m M xn : Int) (hx : Nd.Fits ⟨kd, w0, w1, w2, w3, xa, xb, m, M, xn⟩) (hk : kd = 0 ∨ kd = 1 ∨ kd = 2 ∨ kd = 3 ∨ kd = 4 ∨ kd = 5 ∨ kd = 6 ∨ kd = 7 ∨ kd = 8) (w : World) (hw : VC w) :
  Calls prog 90 #[.agg #[.int .i64 kd, .int .u64 w0, .int .u64 w1, .int .u64 w2, .int .u64 w3, .int .i64 xa, .int .i64 xb, .int .i64 m, .int .i64 M, .int .i64 xn]] w fun e w' => e = .returned (.string ⟨(qU ⟨kd, w0, w1, w2, w3, xa, xb, m, M, xn⟩).toArray⟩) ∧ Below w.heap.size w w' := by
 have bA : ∀ ob, Below w.heap.size w (w.alloc ob) := fun ob => (Below.refl _ w).alloc (Nat.le_refl _) ob
 rcases hk with rfl | rfl | rfl | rfl | rfl | rfl | rfl | rfl | rfl
 ·have hb := ξ bA
  clear bA
  go_enter func90, ntmps90
  go_wp2
  go_ret
  exact ⟨rfl, hb.out _⟩
 ·obtain ⟨s, hs⟩ : ∃ s, s = (⟨1, w0, w1, w2, w3, xa, xb, m, M, xn⟩ : Nd).set := ⟨_, rfl⟩
  obtain ⟨a0, a1, a2, a3⟩ := jK hx.s0 hx.s1 hx.s2 hx.s3
  have kR := ZS s
  have XG := Kv s 256
  have HB := ξ fun w (hw : Fit w) => qaU s w hw
  have HH := ξ fun w => qfm (bytesOf s) (by omega) w
  have hf := (hw.below (bA (.cells #[.int .i64 1, .int .u64 w0, .int .u64 w1, .int .u64 w2, .int .u64 w3, .int .i64 xa, .int .i64 xb, .int .i64 m, .int .i64 M, .int .i64 xn] 57))).fit
  have hb := ξ bA
  have hsv : (sv s) = .agg #[.int .u64 w0, .int .u64 w1, .int .u64 w2, .int .u64 w3] := by
   rw [hs]; unfold sv
   show Value.agg #[.int .u64 (wd (qS w0 w1 w2 w3) 0), .int .u64 (wd (qS w0 w1 w2 w3) 1), .int .u64 (wd (qS w0 w1 w2 w3) 2), .int .u64 (wd (qS w0 w1 w2 w3) 3)] = _
   rw [a0, a1, a2, a3]
  rw [hsv] at HB
  obtain ⟨H, hH⟩ : ∃ H, H = strOfNums (VD (bytesOf s) (bytesOf s).size) := ⟨_, rfl⟩
  have hl : H.size ≤ 512 := by rw [hH, strOfNums_size, qck _ _ (Nat.le_refl _)]; omega
  have hd : H.data.toList = Zi (bytesOf s).data.toList := by
   rw [hH, strOfNums_data]
   have e : (bytesOf s).data.toList.length = (bytesOf s).size := by simp
   unfold VD
   rw [List.take_of_length_le (by omega), List.map_map]
   have hid : ∀ c : UInt8, UInt8.ofNat ((c.toNat : Int)).toNat = c := fun c => by simp
   simp [Function.comp_def, hid]
  rw [← hH] at HH
  have HD := ξ hd
  have HS := ξ hs
  clear hd hH
  clear bA hs hsv a0 a1 a2 a3 kR XG
  go_enter func90, ntmps90
  go_wp2_with fail
  refine (HB.out _ hf).mono ?_
  rintro e w5 ⟨rfl, ki⟩
  have b5 := (hb.out _).trans (ki.mono (hb.out _).size)
  go_wp2_with fail
  refine (HH.out _).mono ?_
  rintro e w6 ⟨rfl, jY⟩
  have b6 := b5.trans (jY.mono b5.size)
  go_wp2
  go_ret
  refine ⟨?_, b6⟩
  show Ending.returned (Value.string ((⟨#[91]⟩ : ByteArray) ++ H ++ ⟨#[93]⟩)) = _
  congr 2
  apply Go.WideShapes.bytes_inj
  have e2 : qU ⟨1, w0, w1, w2, w3, xa, xb, m, M, xn⟩ = 91 :: (Zi (bytesOf s).data.toList ++ [93]) := by rw [HS.out]; rfl
  rw [e2, ← HD.out]
  simp
 ·have hb := ξ bA
  clear bA
  go_enter func90, ntmps90
  go_wp2
  go_ret
  exact ⟨rfl, hb.out _⟩
 ·have hb := ξ bA
  clear bA
  go_enter func90, ntmps90
  go_wp2
  go_ret
  exact ⟨rfl, hb.out _⟩
 ·have hb := ξ bA
  clear bA
  go_enter func90, ntmps90
  go_wp2
  go_ret
  exact ⟨rfl, hb.out _⟩
 ·have hb := ξ bA
  clear bA
  go_enter func90, ntmps90
  go_wp2
  go_ret
  exact ⟨rfl, hb.out _⟩
 ·have hb := bA (.cells #[.int .i64 6, .int .u64 w0, .int .u64 w1, .int .u64 w2, .int .u64 w3, .int .i64 xa, .int .i64 xb, .int .i64 m, .int .i64 M, .int .i64 xn] 57)
  have h3 := hw.below (bA (.cells #[.int .i64 6, .int .u64 w0, .int .u64 w1, .int .u64 w2, .int .u64 w3, .int .i64 xa, .int .i64 xb, .int .i64 m, .int .i64 M, .int .i64 xn] 57))
  have X := NB.new w ⟨6, w0, w1, w2, w3, xa, xb, m, M, xn⟩
  have c7 : (w.alloc (.cells #[.int .i64 6, .int .u64 w0, .int .u64 w1, .int .u64 w2, .int .u64 w3, .int .i64 xa, .int .i64 xb, .int .i64 m, .int .i64 M, .int .i64 xn] 57)).cell? ⟨w.heap.size, 7, none⟩ = some (.int .i64 m) := X.c 7
  have c8 : (w.alloc (.cells #[.int .i64 6, .int .u64 w0, .int .u64 w1, .int .u64 w2, .int .u64 w3, .int .i64 xa, .int .i64 xb, .int .i64 m, .int .i64 M, .int .i64 xn] 57)).cell? ⟨w.heap.size, 8, none⟩ = some (.int .i64 M) := X.c 8
  have HI := ξ fun w h => Ux m hx.mn.1 hx.mn.2 w h
  have HJ := ξ fun w h => Ux M hx.mx.1 hx.mx.2 w h
  have hl := itoa_length_le m hx.mn.1 hx.mn.2
  have hl' := itoa_length_le M hx.mx.1 hx.mx.2
  have e2 : qU ⟨6, w0, w1, w2, w3, xa, xb, m, M, xn⟩ = 42 :: (itoa m ++ 44 :: (itoa M ++ [59])) := rfl
  obtain ⟨H, hH⟩ : ∃ H : ByteArray, H = ⟨(itoa m).toArray⟩ := ⟨_, rfl⟩
  obtain ⟨J, hJ⟩ : ∃ H : ByteArray, H = ⟨(itoa M).toArray⟩ := ⟨_, rfl⟩
  have hs : H.size ≤ 21 := by rw [hH]; simpa [ByteArray.size] using hl
  have hs' : J.size ≤ 21 := by rw [hJ]; simpa [ByteArray.size] using hl'
  rw [← hH] at HI
  rw [← hJ] at HJ
  have HD := ξ (show H.data.toList = itoa m by rw [hH])
  have HE := ξ (show J.data.toList = itoa M by rw [hJ])
  rw [e2]
  clear bA e2 hH hl hJ hl' X
  go_enter func90, ntmps90
  go_wp2_with fail
  refine wp_region_noPanic ?_
  refine wp_region_held_drew (S := fun w' => (w'.cell? ⟨w.heap.size, 7, none⟩ = some (.int .i64 m) ∧ w'.cell? ⟨w.heap.size, 8, none⟩ = some (.int .i64 M)) ∧ VC w' ∧ Below w.heap.size w w') (by kernel_rfl) ?_ (fun qe => ?_)
  ·(try dsimp only); exact ⟨⟨c7, c8⟩, ⟨⟨h3.fit.tab, h3.fit.pos⟩, h3.pow⟩, hb.drew⟩
  refine wpAnyH_take (i := 0) (v := ?_) rfl (by kernel_rfl) (by kernel_rfl) (by kernel_rfl) (fun _ _ _ h => h) (Or.inl ⟨by kernel_rfl, ?_⟩) (by assumption) ?_
  rotate_left
  ·(intro w qi; (try dsimp only at qi); go_simp); (try with_reducible rfl)
  try simp only [Act.put, jE]
  refine wpAnyH_take (i := 1) (v := ?_) rfl (by kernel_rfl) (by kernel_rfl) (by kernel_rfl) (fun _ _ _ h => h) (Or.inl ⟨by kernel_rfl, ?_⟩) (by assumption) ?_
  rotate_left
  ·(intro w qi; (try dsimp only at qi); go_simp); (try with_reducible rfl)
  try simp only [Act.put, jE]
  refine wpAnyH_take (i := 5) (v := ?_) rfl (by kernel_rfl) (by kernel_rfl) (by kernel_rfl) (fun _ _ _ h => h) (Or.inl ⟨by kernel_rfl, ?_⟩) (by assumption) ?_
  rotate_left
  ·(intro w qi; (try dsimp only at qi); go_simp); (try with_reducible rfl)
  try simp only [Act.put, jE]
  refine wpAnyH_take (i := 6) (v := ?_) rfl (by kernel_rfl) (by kernel_rfl) (by kernel_rfl) (fun _ _ _ h => h) (Or.inl ⟨by kernel_rfl, ?_⟩) (by assumption) ?_
  rotate_left
  ·(intro w qi; (try dsimp only at qi); go_simp); (try with_reducible rfl)
  try simp only [Act.put, jE]
  refine wpAnyH_ready (rs := [2]) (by kernel_rfl) (by simp) ?_
  refine AllReadyH.cons rfl (fun K hK => ?_) ?_
  rotate_left
  ·exact AllReadyH.nil
  go_simp
  obtain ⟨⟨c7, c8⟩, h3, hb⟩ := qe
  refine (HI.out _ h3).mono ?_
  rintro e wN ⟨rfl, GW⟩
  have c7 := yu GW c7; have c8 := yu GW c8; have h3 := h3.below GW; have hb := hb.trans (GW.mono hb.size)
  clear GW
  refine hK.out _ _ ?_ (fun qe => ?_)
  ·(try dsimp only); exact ⟨⟨c7, c8⟩, h3, hb⟩
  clear hK K
  try simp only [Act.put, jE]
  refine wpAnyH_take (i := 3) (v := .string ((⟨#[42]⟩ : ByteArray) ++ H)) rfl (by kernel_rfl) (by kernel_rfl) (by kernel_rfl) (fun _ _ _ h => h) (Or.inl ⟨by kernel_rfl, fun w _ => by go_simp; omega⟩) (by assumption) ?_
  try simp only [Act.put, jE]
  refine wpAnyH_take (i := 4) (v := .string ((⟨#[42]⟩ : ByteArray) ++ H ++ ⟨#[44]⟩)) rfl (by kernel_rfl) (by kernel_rfl) (by kernel_rfl) (fun _ _ _ h => h) (Or.inl ⟨by kernel_rfl, fun w _ => by go_simp; omega⟩) (by assumption) ?_
  try simp only [Act.put, jE]
  refine wpAnyH_ready (rs := [7]) (by kernel_rfl) (by simp) ?_
  refine AllReadyH.cons rfl (fun K hK => ?_) ?_
  rotate_left
  ·exact AllReadyH.nil
  go_simp
  obtain ⟨⟨c7, c8⟩, h3, hb⟩ := qe
  refine (HJ.out _ h3).mono ?_
  rintro e wN ⟨rfl, GW⟩
  have c7 := yu GW c7; have c8 := yu GW c8; have h3 := h3.below GW; have hb := hb.trans (GW.mono hb.size)
  clear GW
  refine hK.out _ _ ?_ (fun qe => ?_)
  ·(try dsimp only); exact ⟨⟨c7, c8⟩, h3, hb⟩
  clear hK K
  try simp only [Act.put, jE]
  refine wpAnyH_take (i := 8) (v := .string ((⟨#[42]⟩ : ByteArray) ++ H ++ ⟨#[44]⟩ ++ J)) rfl (by kernel_rfl) (by kernel_rfl) (by kernel_rfl) (fun _ _ _ h => h) (Or.inl ⟨by kernel_rfl, fun w _ => by go_simp; omega⟩) (by assumption) ?_
  try simp only [Act.put, jE]
  refine wpAnyH_take (i := 9) (v := .string ((⟨#[42]⟩ : ByteArray) ++ H ++ ⟨#[44]⟩ ++ J ++ ⟨#[59]⟩)) rfl (by kernel_rfl) (by kernel_rfl) (by kernel_rfl) (fun _ _ _ h => h) (Or.inl ⟨by kernel_rfl, fun w _ => by go_simp; omega⟩) (by assumption) ?_
  try simp only [Act.put, jE]
  refine wpAnyH_take (i := 10) (v := ?_) rfl (by kernel_rfl) (by kernel_rfl) (by kernel_rfl) (fun _ _ _ h => h) (Or.inl ⟨by kernel_rfl, ?_⟩) (by assumption) ?_
  rotate_left
  ·(intro w qi; (try dsimp only at qi); go_simp); (try with_reducible rfl)
  try simp only [Act.put, jE]
  refine wpAnyH_done (by kernel_rfl) ?_ _
  refine NoPanic.normal ?_
  go_wp2
  go_ret
  refine ⟨?_, by with_reducible assumption⟩
  show Ending.returned (Value.string ((⟨#[42]⟩ : ByteArray) ++ H ++ ⟨#[44]⟩ ++ J ++ ⟨#[59]⟩)) = _
  congr 2
  apply Go.WideShapes.bytes_inj
  rw [← HD.out, ← HE.out]
  simp
 ·have hb := ξ bA
  clear bA
  go_enter func90, ntmps90
  go_wp2
  go_ret
  exact ⟨rfl, hb.out _⟩
 ·have hb := ξ bA
  have h3 := hw.below (bA (.cells #[.int .i64 8, .int .u64 w0, .int .u64 w1, .int .u64 w2, .int .u64 w3, .int .i64 xa, .int .i64 xb, .int .i64 m, .int .i64 M, .int .i64 xn] 57))
  have HI := ξ fun w h => Ux xn hx.n.1 hx.n.2 w h
  have hl := itoa_length_le xn hx.n.1 hx.n.2
  have e2 : qU ⟨8, w0, w1, w2, w3, xa, xb, m, M, xn⟩ = 92 :: itoa xn := rfl
  obtain ⟨H, hH⟩ : ∃ H : ByteArray, H = ⟨(itoa xn).toArray⟩ := ⟨_, rfl⟩
  have hs : H.size ≤ 21 := by rw [hH]; simpa [ByteArray.size] using hl
  rw [← hH] at HI
  have HD := ξ (show H.data.toList = itoa xn by rw [hH])
  rw [e2]
  clear bA e2 hH hl
  go_enter func90, ntmps90
  go_wp2_with (go_at_call 121; refine (HI.out _ h3).mono ?_; rintro e w5 ⟨rfl, ki⟩)
  go_ret
  refine ⟨?_, (hb.out _).trans (ki.mono (hb.out _).size)⟩
  show Ending.returned (Value.string ((⟨#[92]⟩ : ByteArray) ++ H)) = _
  congr 2
  apply Go.WideShapes.bytes_inj
  rw [← HD.out]
  simp
def jF (w : World) (b : Nat) (s : ByteArray) : Prop := w.heap[b]? = some (.cells #[.string s] 110 (0, 0))
theorem jF.lt {w : World} {b : Nat} {s : ByteArray} (h : jF w b s) : b < w.heap.size := (Array.getElem?_eq_some_iff.1 h).1
theorem jF.cell {w : World} {b : Nat} {s : ByteArray} (h : jF w b s) : w.cell? ⟨b, 0, none⟩ = some (.string s) := by
 rw [cell_of _ _ _ _ h]; rfl
theorem jF.fz {w : World} {b : Nat} {s : ByteArray} (h : jF w b s) : w.frozen? ⟨b, 0, none⟩ = false := qD _ _ _ _ h 0
theorem jF.set {w : World} {b : Nat} {s : ByteArray} (h : jF w b s) (t : ByteArray) : jF (w.setCell ⟨b, 0, none⟩ (.string t)) b t := by
 have a := heap_setCell_same _ b 0 _ _ (.string t) h
 exact a
theorem qcn (b : Nat) (w : World) (h : jF w b ⟨#[]⟩) :
  Calls prog 83 #[.pointer (some ⟨b, 0, none⟩)] w fun e w' => e = .returned (.int .u8 0) ∧ w' = w := by
 have h0 := h.cell
 have hf := h.fz
 go_enter func83, ntmps83
 go_wp2
 go_ret
 exact ⟨rfl, rfl⟩
theorem qaV (b : Nat) (c : UInt8) (l : List UInt8) (w : World) (h : jF w b ⟨(c :: l).toArray⟩) :
  Calls prog 83 #[.pointer (some ⟨b, 0, none⟩)] w fun e w' => e = .returned (.int .u8 (c.toNat : Int)) ∧ w' = w.setCell ⟨b, 0, none⟩ (.string ⟨l.toArray⟩) := by
 have h0 := h.cell
 have hf := h.fz
 go_enter func83, ntmps83
 go_wp2
 have e : (⟨(c :: l).toArray⟩ : ByteArray).extract 1 (l.length + 1) = ⟨l.toArray⟩ := by
  apply ByteArray.ext
  apply Array.ext'
  simp [ByteArray.data_extract]
 rw [e]
 go_ret
 exact ⟨rfl, rfl⟩
def MaxLen (w : World) : Prop := ∃ m, w.cell? ⟨4, 0, none⟩ = some (.int .i64 m)
structure Only (B b : Nat) (w w' : World) : Prop where
 below : Below B w w'
 heap : ∀ k, k ≠ b → k < w.heap.size → w'.heap[k]? = w.heap[k]?
theorem Only.of {B b : Nat} {w w' : World} (h : Below w.heap.size w w') (hb : B ≤ w.heap.size) : Only B b w w' := ⟨h.mono hb, fun k _ hk => h.block k hk⟩
theorem Only.trans {B b : Nat} {w w' w2 : World} (h : Only B b w w') (h' : Only B b w' w2) : Only B b w w2 :=
 ⟨h.below.trans h'.below, fun k hk hl => (h'.heap k hk (Nat.lt_of_lt_of_le hl h.below.size)).trans (h.heap k hk hl)⟩
theorem Only.set {B b : Nat} {w w' : World} (h : Only B b w w') (hb : B ≤ b) (v : Value) : Only B b w (w'.setCell ⟨b, 0, none⟩ v) :=
 ⟨h.below.setCell hb _, fun k hk hl => (Below.heap_setCell _ ⟨b, 0, none⟩ _ k hk).trans (h.heap k hk hl)⟩
theorem qco (B b : Nat) (hb : B ≤ b) (s e : ByteArray) (hs : s.size < 4294967281) (w : World) (hm : MaxLen w) (h : jF w b s) :
  Calls prog 87 #[.pointer (some ⟨b, 0, none⟩), .string e] w fun r w' => r = .returned (.string ⟨(Lib.cut s.data.toList e.data.toList).1.toArray⟩) ∧ jF w' b ⟨(Lib.cut s.data.toList e.data.toList).2.1.toArray⟩ ∧ Only B b w w' := by
 have h0 := h.cell
 have hf := h.fz
 obtain ⟨m, hm⟩ := hm
 have HC := ξ (Tryz.strings_Cut s e m w hs hm)
 go_enter func87, ntmps87
 go_wp2_with fail
 refine HC.out.mono ?_
 rintro r w1 ⟨rfl, n, rfl⟩
 have h1 : jF (w.drewN n) b s := h
 have c0 := h1.cell
 have cf := h1.fz
 have hB : Only B b w (w.drewN n) := ⟨⟨rfl, rfl, rfl, Nat.le_refl _, fun k hk => rfl⟩, fun k _ _ => rfl⟩
 clear HC hm
 go_wp2
 go_ret
 exact ⟨rfl, h1.set _, hB.set hb _⟩
structure Vars (w : World) : Prop where
 max : MaxLen w
 syn : ∃ tp p, w.var? prog "strconv.ErrSyntax" = some #[.iface tp p]
 rng : ∃ tp p, w.var? prog "strconv.ErrRange" = some #[.iface tp p]
theorem World.lt_of_cell {w : World} {a : Addr} {v : Value} (h : w.cell? a = some v) : a.block < w.heap.size := by
 rcases Nat.lt_or_ge a.block w.heap.size with q | q
 ·exact q
 ·unfold World.cell? at h
  rw [Array.getElem?_eq_none q] at h
  simp at h
theorem qcp : ∃ g, Tryz.prog.globalNamed "strconv.ErrSyntax" = some g := Option.isSome_iff_exists.1 (by kernel_rfl)
theorem qcq : ∃ g, Tryz.prog.globalNamed "strconv.ErrRange" = some g := Option.isSome_iff_exists.1 (by kernel_rfl)
theorem MaxLen.below {w w' : World} (h : MaxLen w) (hB : Below w.heap.size w w') : MaxLen w' := by
 obtain ⟨m, h⟩ := h
 exact ⟨m, (hB.cell (World.lt_of_cell h)).trans h⟩
theorem Vars.below {w w' : World} (h : Vars w) (hB : Below w.heap.size w w') : Vars w' := by
 obtain ⟨h1, ⟨t, p, h2⟩, ⟨t', p', h3⟩⟩ := h
 obtain ⟨g, hg⟩ := qcp
 obtain ⟨g', hg'⟩ := qcq
 exact ⟨h1.below hB, ⟨t, p, Joins.var_stays hg h2 hB (Nat.le_refl _)⟩, ⟨t', p', Joins.var_stays hg' h3 hB (Nat.le_refl _)⟩⟩
def zy (l : List UInt8) : Int := match Lib.atoiAll l with
 | .ok v => v
 | .range => Lib.atoiSat l
 | _ => 0
theorem qhS (s : ByteArray) (hs : s.size ≤ 281474976710656) (w : World) (h : Vars w) :
  Calls prog 114 #[.string s] w fun e w' => (∃ v, e = .returned (.tuple #[.int .i64 (zy s.data.toList), v])) ∧ Below w.heap.size w w' := by
 unfold zy
 cases hq : Lib.atoiAll s.data.toList with
 | ok v =>
  refine (Tryz.strconv_Atoi_ok s (by omega) v hq w).mono ?_
  rintro e w' ⟨rfl, rfl | ⟨t, rfl⟩⟩
  ·exact ⟨⟨_, rfl⟩, Below.refl _ _⟩
  ·exact ⟨⟨_, rfl⟩, Joins.below_bytesWorld _ _ _ _ (Nat.le_refl _)⟩
 | range =>
  obtain ⟨tp, p, hv⟩ := h.rng
  refine (Tryz.strconv_Atoi_range_var s hs hq tp p w hv).mono ?_
  rintro e w' ⟨N, rfl, _, _, hB⟩
  exact ⟨⟨_, rfl⟩, hB⟩
 | _ =>
  obtain ⟨tp, p, hv⟩ := h.syn
  refine (Any.strconv_Atoi_syntax_var Tryz.laysC172 s hs hq tp p w hv).mono ?_
  rintro e w' ⟨N, rfl, _, _, hB⟩
  exact ⟨⟨_, rfl⟩, hB⟩
theorem jF.below {B : Nat} {w w' : World} {b : Nat} {s : ByteArray} (h : jF w b s) (hB : Below B w w') (hb : b < B) : jF w' b s := (hB.block b hb).trans h
theorem X8 (B b : Nat) (hb : B ≤ b) (s e : ByteArray) (hs : s.size < 4294967281) (w0 w : World) (hv : Vars w0) (XF : Below w0.heap.size w0 w) (hB : w0.heap.size ≤ B) (h : jF w b s) :
  Calls prog 81 #[.pointer (some ⟨b, 0, none⟩), .string e] w fun r w' => r = .returned (.int .i64 (zy (Lib.cut s.data.toList e.data.toList).1)) ∧ jF w' b ⟨(Lib.cut s.data.toList e.data.toList).2.1.toArray⟩ ∧ Only B b w w' := by
 have HU := ξ (qco B b hb s e hs w (hv.below XF).max h)
 have hcl : (Lib.cut s.data.toList e.data.toList).1.length ≤ s.size := by
  have e1 : s.data.toList.length = s.size := by simp
  unfold Lib.cut
  split
  ·rw [List.length_take]; omega
  ·show s.data.toList.length ≤ _; omega
 have HA := ξ fun w (h : Vars w) => qhS ⟨(Lib.cut s.data.toList e.data.toList).1.toArray⟩ (by show Array.size _ ≤ _; simp; omega) w h
 have hbl := h.lt
 clear hcl
 go_enter func81, ntmps81
 go_wp2_with fail
 refine HU.out.mono ?_
 rintro r w1 ⟨rfl, h1, qr⟩
 have VE : Below w0.heap.size w0 w1 := XF.trans (qr.below.mono hB)
 have Ja := h1.lt
 go_wp2_with fail
 refine (HA.out w1 (hv.below VE)).mono ?_
 rintro r w2 ⟨⟨v, rfl⟩, zj⟩
 have h2 := h1.below zj Ja
 have qQ := qr.trans (Only.of zj (by omega))
 clear HU HA
 go_wp2
 go_ret
 exact ⟨rfl, h2, qQ⟩
def qaW (n : Nat) : List UInt8 := if n < 10 then [UInt8.ofNat (48 + n)] else if n < 100 then [UInt8.ofNat (48 + n / 10), UInt8.ofNat (48 + n % 10)] else [UInt8.ofNat (48 + n / 100), UInt8.ofNat (48 + n / 10 % 10), UInt8.ofNat (48 + n % 10)]
theorem dec3 (n : Nat) (h : n < 1000) : decDigits n = qaW n := by
 unfold qaW
 by_cases h1 : n < 10
 ·rw [if_pos h1, decDigits_one h1]
 ·rw [if_neg h1]
  by_cases h2 : n < 100
  ·rw [if_pos h2, decDigits_two h1 h2]
  ·rw [if_neg h2, decDigits, dif_neg h1, decDigits_two (by omega) (by omega), Nat.div_div_eq_div_mul]
   simp
theorem qkn : ∀ n, n < 1000 → zy (qaW n) = (n : Int) ∧ (44 : UInt8) ∉ qaW n ∧ (59 : UInt8) ∉ qaW n ∧ qaW n ≠ [] := by decide +kernel
theorem VZ (n : Int) (h0 : -1 ≤ n) (h1 : n < 1000) : zy (itoa n) = n ∧ (44 : UInt8) ∉ itoa n ∧ (59 : UInt8) ∉ itoa n := by
 by_cases hn : n = -1
 ·subst hn
  have e : itoa (-1) = [45, 49] := by
   unfold itoa
   rw [if_pos (by omega)]
   show 45 :: decDigits 1 = _
   rw [decDigits_one (by omega)]
   rfl
  rw [e]
  decide +kernel
 ·obtain ⟨k, rfl⟩ : ∃ k : Nat, n = k := ⟨n.toNat, by omega⟩
  have e : itoa (k : Int) = decDigits k := by unfold itoa; rw [if_neg (by omega)]; simp
  rw [e, dec3 k (by omega)]
  obtain ⟨a, b, c, _⟩ := qkn k (by omega)
  exact ⟨a, b, c⟩
def Qn : List UInt8 := [48, 49, 50, 51, 52, 53, 54, 55, 56, 57, 97, 98, 99, 100, 101, 102]
def unhex : List UInt8 → List UInt8
 | a :: b :: t => if 0 ≤ indexByte Qn a ∧ 0 ≤ indexByte Qn b then UInt8.ofNat ((indexByte Qn a).toNat * 16 + (indexByte Qn b).toNat) :: unhex t else []
 | _ => []
theorem X9 : ∀ q, q < 16 → indexByte Qn (dig q) = (q : Int) := by decide +kernel
theorem Uy (l : List UInt8) : unhex (Zi l) = l := by
 induction l with
 | nil => rfl
 | cons a t ih =>
  have ha : a.toNat < 256 := a.toNat_lt
  show unhex (dig (a.toNat / 16) :: dig (a.toNat % 16) :: Zi t) = _
  rw [unhex, X9 _ (by omega), X9 _ (by omega), if_pos ⟨by omega, by omega⟩, ih]
  congr 1
  have e : ((a.toNat / 16 : Nat) : Int).toNat * 16 + ((a.toNat % 16 : Nat) : Int).toNat = a.toNat := by omega
  rw [e]
  simp
theorem V1 : ∀ l : List UInt8, 2 * (unhex l).length ≤ l.length
 | [] => by simp [unhex]
 | [a] => by simp [unhex]
 | a :: b :: t => by
  have := V1 t
  unfold unhex
  split <;> simp <;> omega
theorem Uz (e : UInt8) (xs r : List UInt8) (h : e ∉ xs) : Lib.cut (xs ++ e :: r) [e] = (xs, r, true) := by
 have hi : Lib.index (xs ++ e :: r) [e] = (xs.length : Int) := by
  rw [index_one]
  induction xs with
  | nil => simp [indexByte]
  | cons a t ih =>
   have hne : a ≠ e := fun q => h (by simp [q])
   have ht := ih fun q => h (List.mem_cons_of_mem _ q)
   show (if (a == e) = true then (0 : Int) else if (indexByte (t ++ e :: r) e == -1) = true then -1 else indexByte (t ++ e :: r) e + 1) = _
   rw [ht, if_neg (by simpa using hne), if_neg (by simp)]
   simp
 unfold Lib.cut
 rw [hi, if_pos (by omega)]
 simp
theorem GX (s e : List UInt8) : (Lib.cut s e).1.length ≤ s.length ∧ (Lib.cut s e).2.1.length ≤ s.length := by
 unfold Lib.cut
 split
 ·simp only [List.length_take, List.length_drop]; omega
 ·exact ⟨Nat.le_refl _, by simp⟩
end Go.Proofs.YtjgegohidhdbpaaGreatDoor
