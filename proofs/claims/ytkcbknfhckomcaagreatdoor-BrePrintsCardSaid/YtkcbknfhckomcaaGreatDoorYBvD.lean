/- The reference's closes, bytes. -/
import Derived.Test.YtkcbknfhckomcaaGreatDoorYBvB
import Derived.Test.YtkcbknfhckomcaaGreatDoorYBuG
import Derived.Test.YtkcbknfhckomcaaGreatDoorYBrC
import Derived.Test.YtkcbknfhckomcaaGreatDoorYSetH
import Derived.Deep.LoopGhost
set_option linter.unusedVariables false
set_option linter.unusedSimpArgs false
set_option maxRecDepth 100000
set_option maxHeartbeats 40000000
namespace Go.Proofs.YtkcbknfhckomcaaGreatDoor
open Go.RowKit Go.Lib
theorem closesU_c (s : List UInt8) (hs : s.length ≤ 100000) (i : Nat) (hi : i ≤ s.length) (w : World) :
  Calls Tryz.prog 54 #[.string ⟨s.toArray⟩, .int .i64 (i : Int)] w fun e w' => e = .returned (.bool (endsP s i)) ∧ w' = w := by
 have hsz : (⟨s.toArray⟩ : ByteArray).size = s.length := by simp [ByteArray.size]
 have ew1 : IntKind.i64.wrap ((i : Int) + 1) = (i : Int) + 1 := by simp [IntKind.wrap, IntKind.signed, IntKind.bits]; omega
 have ew2 : IntKind.i64.wrap ((i : Int) + 2) = (i : Int) + 2 := by simp [IntKind.wrap, IntKind.signed, IntKind.bits]; omega
 obtain ⟨r, hr⟩ : ∃ r, r = endsP s i := ⟨_, rfl⟩
 rw [← hr]
 have HR := Lib.hid hr
 clear hr
 by_cases he : i = s.length
 ·have g0 : ((i : Int) == s.length) = true := by rw [he]; simp
  obtain rfl : r = true := HR.out.trans (by unfold endsP; rw [decide_eq_true he]; rfl)
  clear HR he
  go_enter Tryz.func54, Tryz.ntmps54
  go_wp2_with fail
  go_ret
  exact ⟨rfl, rfl⟩
 ·have g0 : ((i : Int) == s.length) = false := by rw [beq_eq_false_iff_ne]; omega
  have hq0 : r = ah s i [92, 41] := HR.out.trans (by unfold endsP; rw [decide_eq_false he]; rfl)
  clear HR
  by_cases h1l : i + 1 < s.length
  ·have g1 : ((i : Int) + 1 < s.length) = True := by simp; omega
   have xs := fun W => sl2_c s i (by omega) W
   have hq := two_eq s i 92 41
   rw [← hq0] at hq
   clear hq0 he
   generalize (⟨((s.drop i).take 2).toArray⟩ : ByteArray) = X at *
   cases r with
   | true =>
    go_enter Tryz.func54, Tryz.ntmps54
    go_wp2_with fail
    go_ret
    exact ⟨rfl, rfl⟩
   | false =>
    go_enter Tryz.func54, Tryz.ntmps54
    go_wp2_with fail
    go_ret
    exact ⟨rfl, rfl⟩
  ·have g1 : ((i : Int) + 1 < s.length) = False := by simp; omega
   obtain rfl : r = false := hq0.trans (by rw [ah_two, List.getElem?_eq_none (show s.length ≤ i + 1 by omega)]; simp)
   clear hq0 he
   go_enter Tryz.func54, Tryz.ntmps54
   go_wp2_with fail
   go_ret
   exact ⟨rfl, rfl⟩
theorem run_load_rowv {W : World} {b : Nat} {f : Nat → Bool} {o : Oper} {ev : Operand → Value} {x : Operand} (h : Row W b f) (ho : o.op = .load 66 x) (hx : ev x = .pointer (some ⟨b, 0, none⟩)) : (execOp ev o).run Tryz.prog W = .ok (.value (.agg (barr f))) W := by
 unfold execOp
 simp only [ho, hx, h.loadAt, Sem.run_bind, Sem.run_pure, Result.andThen_ok]
theorem run_load_stv {W : World} {b : Nat} {v : Value} {g : Int} {en : Nat → Bool} {a e : Int} {o : Oper} {ev : Operand → Value} {x : Operand} (h : ST W b v g en a e) (ho : o.op = .load 69 x) (hx : ev x = .pointer (some ⟨b, 0, none⟩)) : (execOp ev o).run Tryz.prog W = .ok (.value (.agg (sc v g en a e))) W := by
 unfold execOp
 simp only [ho, hx, h.loadAt, Sem.run_bind, Sem.run_pure, Result.andThen_ok]
def LOut (w : World) (n : Nat) (g : Int) (en : Nat → Bool) (a e : Int) (ys : List Nd) (r : Ending) (w' : World) : Prop :=
 ∃ p' c', r = .returned (.agg (sc (.slice p' (n + 1) c') g en a e)) ∧ RRow w' w.heap.size (.slice p' (n + 1) c') (n + 1) ys ∧ Below w.heap.size w w'
theorem bytesU_c (p : Option Addr) (n c : Nat) (g : Int) (en : Nat → Bool) (a e : Int) (F : Nat → Bool) (xs : List Nd) (hn : n ≤ 999999) (w : World) (hrow : RRow w 0 (.slice p n c) n xs) :
  Calls Tryz.prog 73 #[.agg (sc (.slice p n c) g en a e), bv F] w (LOut w n g en a e (xs ++ [byNd F])) := by
 obtain ⟨hz, hsz2⟩ := zero_of_info (P := Tryz.prog) infoSt
 obtain ⟨b, hb⟩ : ∃ b, b = w.heap.size := ⟨_, rfl⟩
 obtain ⟨W0, hW⟩ : ∃ W0, W0 = ((w.alloc (.cells (sc (.slice p n c) g en a e) 69)).alloc (.cells (barr F) 66)).alloc (.cells (sc (.slice none 0 0) 0 (fun _ => false) 0 0) 69) := ⟨_, rfl⟩
 have s0 : W0.heap.size = b + 3 := by rw [hW, hb]; simp
 have hS : ST W0 b (.slice p n c) g en a e := by rw [hW, hb]; exact ((ST.new w _ _ _ _ _).alloc _).alloc _
 have hN : Row W0 (b + 1) F := by
  rw [hW, hb]
  have := (Row.new (w.alloc (.cells (sc (.slice p n c) g en a e) 69)) F).alloc (.cells (sc (.slice none 0 0) 0 (fun _ => false) 0 0) 69)
  rwa [World.size_alloc] at this
 have hZ : ST W0 (b + 1 + 1) (.slice none 0 0) 0 (fun _ => false) 0 0 := by
  rw [hW, hb]
  have := ST.new ((w.alloc (.cells (sc (.slice p n c) g en a e) 69)).alloc (.cells (barr F) 66)) (.slice none 0 0) 0 (fun _ => false) 0 0
  rwa [World.size_alloc, World.size_alloc] at this
 have hB0 : Below b w W0 := by rw [hW, hb]; exact (((Below.refl _ w).alloc (Nat.le_refl _) _).alloc (by simp) _).alloc (by simp; omega) _
 have hX0 : RRow W0 0 (.slice p n c) n xs := by rw [hW]; exact row_alloc (row_alloc (row_alloc hrow _) _) _
 have hwd := fun w => words_c F w
 have hlf := fun w (h : RRow w 0 (.slice p n c) n xs) => leafU_c p n c g en a e (byNd F) xs hn w h
 unfold bv sv at hwd
 unfold byNd Nd.cells at hlf
 dsimp only at hlf
 unfold bv LOut
 rw [← hb]
 have HS := Lib.hid hS
 have HN := Lib.hid hN
 have HZ := Lib.hid hZ
 have HB0 := Lib.hid hB0
 have HX0 := Lib.hid hX0
 have HW := Lib.hid hW
 have HB := Lib.hid hb
 have HWD := Lib.hid hwd
 have HLF := Lib.hid hlf
 clear hS hN hZ hB0 hX0 hrow hW hb hwd hlf hsz2
 generalize hC0 : sc (.slice none 0 0) 0 (fun _ => false) 0 0 = C0 at hz HW
 generalize hC1 : sc (.slice p n c) g en a e = C1 at HW ⊢
 go_enter Tryz.func73, Tryz.ntmps73
 go_upto_region 1 with fail
 rw [← HW.out, ← HB.out]
 subst hC1
 clear HW hz hC0
 refine wp_region_noPanic ?_
 refine wp_region_held_drew (S := fun W => ST W b (.slice p n c) g en a e ∧ Row W (b + 1) F) (by kernel_rfl) ⟨HS.out.drew, ⟨HN.out.heap⟩⟩ (fun _ => ?_)
 have HM := Lib.hid ((Below.refl (b + 3) W0).drew)
 generalize W0.drew = W at *
 have HSW : Hid (ST W b (.slice p n c) g en a e ∧ Row W (b + 1) F) := Lib.hid (by assumption)
 refine wpAnyH_take (i := 0) (v := .agg (sc (.slice p n c) g en a e)) rfl (by kernel_rfl) (by kernel_rfl) (by kernel_rfl) (fun _ _ _ h => h) (Or.inl ⟨by kernel_rfl, fun w hSw => run_load_stv hSw.1 rfl rfl⟩) HSW.out ?_
 try simp only [Act.put, laS]
 refine wpAnyH_take (i := 1) (v := .agg (barr F)) rfl (by kernel_rfl) (by kernel_rfl) (by kernel_rfl) (fun _ _ _ h => h) (Or.inl ⟨by kernel_rfl, fun w hSw => run_load_rowv hSw.2 rfl rfl⟩) HSW.out ?_
 try simp only [Act.put, laS]
 refine wpAnyH_ready (rs := [2]) (by kernel_rfl) (by simp) ?_
 refine AllReadyH.cons rfl (fun K hK => ?_) AllReadyH.nil
 go_simp
 refine (HWD.out _).mono ?_
 rintro e1 W1 ⟨rfl, hB1⟩
 have hsW := HM.out.size
 have HM1 := Lib.hid (HM.out.trans (hB1.mono (by omega)))
 clear hB1 hsW HWD HM HSW
 have HSW : Hid (ST W1 b (.slice p n c) g en a e ∧ Row W1 (b + 1) F) := Lib.hid ⟨HS.out.below HM1.out (by omega), HN.out.below HM1.out (by omega)⟩
 refine hK.out _ _ HSW.out (fun _ => ?_)
 clear hK K
 try simp only [Act.put, laS]
 refine wpAnyH_take (i := 3) (v := ?_) rfl (by kernel_rfl) (by kernel_rfl) (by kernel_rfl) (fun _ _ _ h => h) (Or.inl ⟨by kernel_rfl, ?_⟩) HSW.out ?_
 rotate_left
 ·(intro w hSw; (try dsimp only at hSw); go_simp); (try with_reducible rfl)
 try simp only [Act.put, laS]
 refine wpAnyH_ready (rs := [4]) (by kernel_rfl) (by simp) ?_
 refine AllReadyH.cons rfl (fun K hK => ?_) AllReadyH.nil
 go_simp
 refine (HLF.out _ (row_below HX0.out (s0 ▸ HM1.out))).mono ?_
 rintro e2 W2 ⟨p9, c9, rfl, hr9, hB2⟩
 have hsW := HM1.out.size
 have HM2 := Lib.hid (HM1.out.trans (hB2.mono (by omega)))
 have H9 := Lib.hid (row_weak hr9 (show b + 3 ≤ _ by omega))
 clear hB2 hsW HLF HM1 HSW hr9
 have HSW : Hid (ST W2 b (.slice p n c) g en a e ∧ Row W2 (b + 1) F) := Lib.hid ⟨HS.out.below HM2.out (by omega), HN.out.below HM2.out (by omega)⟩
 refine hK.out _ _ HSW.out (fun _ => ?_)
 clear hK K
 try simp only [Act.put, laS]
 refine wpAnyH_ready (rs := [5]) (by kernel_rfl) (by simp) ?_
 refine AllReadyH.cons rfl (fun K hK => ?_) AllReadyH.nil
 have HZ2 := Lib.hid (HZ.out.below HM2.out (by omega))
 refine wp_store_st HZ2.out (v' := .slice p9 (n + 1) c9) rfl rfl rfl rfl ?_
 refine hK.out _ _ ⟨HSW.out.1.setRow_other (by omega) _, HSW.out.2.setRow_other (by omega) _⟩ (fun _ => ?_)
 clear hK K
 have q := (HZ2.out.put (.slice p9 (n + 1) c9) g en a e).load
 have HQ := Lib.hid q
 have HR := Lib.hid (row_row H9.out (show b + 1 + 1 < b + 3 by omega) (sc (.slice p9 (n + 1) c9) g en a e))
 have HB2 := Lib.hid (Below.setRow (HB0.out.trans (HM2.out.mono (by omega : b ≤ b + 3))) (show b ≤ b + 1 + 1 by omega) (sc (.slice p9 (n + 1) c9) g en a e))
 clear q HZ2 HM2 H9 HSW
 try simp only [Act.put, laS]
 refine wpAnyH_done (by kernel_rfl) ?_ _
 refine NoPanic.normal ?_
 go_wp2
 have q := HQ.out
 exact bodyPost_ret (v := .agg (sc (.slice p9 (n + 1) c9) g en a e)) (by simp [results, Tryz.results73, asAddr, Result.andThen, q]) rfl ⟨p9, c9, rfl, row_weak HR.out (by omega), HB2.out⟩
end Go.Proofs.YtkcbknfhckomcaaGreatDoor
namespace Go.Proofs.YtkcbknfhckomcaaGreatDoor
open Go.RowKit
def BRd.pu (r : BRd) (x : Nd) : BRd := { r with l := r.l ++ [x] }
def grpU (s : List UInt8) (row : BRd → Except Er BRd) (r : BRd) (at_ : Nat) : Except Er BRd :=
 if r.g = 9 then .error (41, at_) else
 match row { r with g := r.g + 1 } with
 | .error e => .error e
 | .ok q => if q.p = s.length ∨ q.l.length = r.l.length then .error (41, at_) else
  .ok (BRd.pu { q with p := q.p + 2, en := fun k => if k = r.g + 1 then true else q.en k } ⟨7, 0, 0, 0, 0, (q.l.length : Int) - 1, 0, 0, 0, (r.g : Int) + 1⟩)
def escU (s : List UInt8) (row : BRd → Except Er BRd) (r : BRd) (first : Bool) : Except Er BRd :=
 match s[r.p + 1]? with
 | none => .error (40, r.p)
 | some d =>
  if d = 40 then grpU s row (r.to (r.p + 2)) r.p else
  if decide (49 ≤ d.toNat) && decide (d.toNat ≤ 57) then (if !r.en (d.toNat - 48) then .error (44, r.p) else .ok ((r.to (r.p + 2)).pu ⟨8, 0, 0, 0, 0, 0, 0, 0, 0, (d.toNat : Int) - 48⟩)) else
  if d = 110 then .ok ((r.to (r.p + 2)).pu (byNd (rg 10 10))) else
  if d = 47 ∨ d ∈ ([46, 91, 92, 42, 94, 36] : List UInt8) then .ok ((r.to (r.p + 2)).pu (byNd (rg d.toNat d.toNat))) else
  if d = 123 ∧ first = true then .error (43, r.p) else .error (40, r.p)
def atomU (s : List UInt8) (row : BRd → Except Er BRd) (r : BRd) (first : Bool) : Except Er BRd :=
 match s[r.p]? with
 | none => .error (0, 0)
 | some b =>
  if b = 46 then .ok ((r.to (r.p + 1)).pu (byNd fun _ => true)) else
  if b = 91 then (match brkP (s.drop r.p) with
   | none => .error (42, r.p)
   | some (F, n) => .ok ((r.to (r.p + n)).pu (byNd F))) else
  if b = 92 then escU s row r first else .ok ((r.to (r.p + 1)).pu (byNd (rg b.toNat b.toNat)))
def behU (s : List UInt8) (r : BRd) : Except Er BRd :=
 if !isTimesP s r.p then .ok r else
 match timesP s r.p with
 | none => .error (43, r.p)
 | some (a, b, k) => if isTimesP s k then .error (43, k) else .ok ((r.to k).pu ⟨6, 0, 0, 0, 0, (r.l.length : Int) - 1, 0, a, b, 0⟩)
def itemsU (s : List UInt8) (row : BRd → Except Er BRd) : Nat → BRd → Bool → List Int → Except Er (List Int × BRd)
 | 0, _, _, _ => .error (0, 0)
 | f + 1, r, first, ps => if endsP s r.p then .ok (ps, r) else
  if s[r.p]? = some 36 ∧ endsP s (r.p + 1) = true then itemsU s row f ((r.to (r.p + 1)).pu (kindNd 3)) false (ps ++ [(r.l.length : Int)]) else
  match atomU s row r first with
  | .error e => .error e
  | .ok q => match behU s q with
   | .error e => .error e
   | .ok q' => itemsU s row f q' false (ps ++ [(q'.l.length : Int) - 1])
def catsU : List Int → BRd → BRd
 | [], r => r
 | a :: tl, r => catsU tl (r.pu ⟨4, 0, 0, 0, 0, a, (r.l.length : Int) - 1, 0, 0, 0⟩)
def rowU (s : List UInt8) : Nat → BRd → Except Er BRd
 | 0, _ => .error (0, 0)
 | f + 1, r =>
  match itemsU s (rowU s f) (s.length + 1) (if ah s r.p [94] then (r.to (r.p + 1)).pu (kindNd 2) else r) true (if ah s r.p [94] then [(r.l.length : Int)] else []) with
  | .error e => .error e
  | .ok (ps, q) => .ok (catsU ps.reverse.tail q)
def parseU (s : List UInt8) : Except Er (List Nd) :=
 if s = [] then .ok [kindNd 0] else
 match rowU s 10 ⟨0, [], 0, fun _ => false⟩ with
 | .error e => .error e
 | .ok q => if q.p ≠ s.length then .error (41, q.p) else if 120 < q.l.length then .error (2, 0) else .ok q.l
structure Cap (q u : BRd) : Prop where
 p : q.p = u.p
 g : q.g = u.g
 en : q.en = u.en
 l : q.l = u.l.take 121
def m120 (t : Int) : Int := if t ≤ 120 then t else 120
theorem Cap.to {q u : BRd} (h : Cap q u) (i : Nat) : Cap (q.to i) (u.to i) := ⟨rfl, h.g, h.en, h.l⟩
theorem Cap.len {q u : BRd} (h : Cap q u) : q.l.length = min 121 u.l.length := by rw [h.l, List.length_take]
theorem Cap.put {q u : BRd} (h : Cap q u) {x y : Nd} (hxy : u.l.length ≤ 120 → x = y) : Cap (q.put x) (u.pu y) := by
 refine ⟨h.p, h.g, h.en, ?_⟩
 show (if q.l.length ≤ 120 then q.l ++ [x] else q.l) = (u.l ++ [y]).take 121
 have hl := h.len
 by_cases hu : u.l.length ≤ 120
 ·rw [if_pos (by omega), h.l, List.take_of_length_le (by omega), hxy hu, List.take_of_length_le (by rw [List.length_append]; simp; omega)]
 ·rw [if_neg (by omega), h.l, List.take_append_of_le_length (by omega)]
theorem Cap.at {q u : BRd} (h : Cap q u) (h1 : 1 ≤ u.l.length) : (q.l.length : Int) - 1 = m120 ((u.l.length : Int) - 1) := by
 have := h.len
 unfold m120
 split <;> omega
theorem m120_le {t : Int} (h : t ≤ 120) : m120 t = t := if_pos h
theorem pu_len (u : BRd) (y : Nd) : (u.pu y).l.length = u.l.length + 1 := by simp [BRd.pu]
theorem catsU_len : ∀ (tl : List Int) (u : BRd), u.l.length ≤ (catsU tl u).l.length
 | [], u => Nat.le_refl _
 | a :: tl, u => by
  rw [catsU]
  have := catsU_len tl (u.pu ⟨4, 0, 0, 0, 0, a, (u.l.length : Int) - 1, 0, 0, 0⟩)
  rw [pu_len] at this
  omega
theorem catsU_p : ∀ (tl : List Int) (u : BRd), (catsU tl u).p = u.p
 | [], u => rfl
 | a :: tl, u => by rw [catsU, catsU_p]; rfl
theorem cats_cap : ∀ (tl : List Int) (q u : BRd) (b : Int), Cap q u → (∀ t ∈ tl, t < u.l.length) → 1 ≤ u.l.length → b = m120 ((u.l.length : Int) - 1) → Cap (catsP (tl.map m120) q b) (catsU tl u)
 | [], q, u, b, h, ht, h1, hb => h
 | a :: tl, q, u, b, h, ht, h1, hb => by
  rw [List.map_cons, catsP, catsU]
  have hc : Cap (q.put ⟨4, 0, 0, 0, 0, m120 a, b, 0, 0, 0⟩) (u.pu ⟨4, 0, 0, 0, 0, a, (u.l.length : Int) - 1, 0, 0, 0⟩) := h.put (fun hu => by
   have := ht a (List.mem_cons_self ..)
   rw [hb, m120_le (by omega), m120_le (by omega)])
  refine cats_cap tl _ _ _ hc (fun t hm => ?_) (by rw [pu_len]; omega) (hc.at (by rw [pu_len]; omega))
  have := ht t (List.mem_cons_of_mem _ hm)
  rw [pu_len]; omega
theorem ends_times {s : List UInt8} {i : Nat} (h : endsP s i = true) : isTimesP s i = false := by
 unfold endsP at h
 unfold isTimesP
 rw [Bool.or_eq_true, decide_eq_true_eq] at h
 rw [ah_one, ah_two]
 rcases h with t | t
 ·rw [List.getElem?_eq_none (by omega)]; rfl
 ·rw [ah_two, Bool.and_eq_true, beq_iff_eq, beq_iff_eq] at t
  rw [t.1, t.2]; rfl
inductive SimR (s : List UInt8) (n0 : Nat) : Except Er (Bool × BRd) → Except Er BRd → Prop
 | er (e : Er) : SimR s n0 (.error e) (.error e)
 | ok (q v : BRd) : Cap q v → n0 ≤ v.l.length → endsP s v.p = true → SimR s n0 (.ok (decide (v.l.length ≠ n0), q)) (.ok v)
inductive SimB (s : List UInt8) (n0 : Nat) : Except Er BRd → Except Er BRd → Prop
 | er (e : Er) : SimB s n0 (.error e) (.error e)
 | ok (q v : BRd) : Cap q v → n0 < v.l.length → SimB s n0 (.ok q) (.ok v)
inductive SimT (s : List UInt8) (n0 : Nat) : Except Er (Int × BRd) → Except Er BRd → Prop
 | er (e : Er) : SimT s n0 (.error e) (.error e)
 | ok (q v : BRd) : Cap q v → n0 < v.l.length → isTimesP s v.p = false → SimT s n0 (.ok (m120 ((v.l.length : Int) - 1), q)) (.ok v)
inductive SimI (s : List UInt8) (n0 : Nat) : Except Er (List Int × BRd) → Except Er (List Int × BRd) → Prop
 | er (e : Er) : SimI s n0 (.error e) (.error e)
 | ok (ts : List Int) (q v : BRd) : Cap q v → (∀ t ∈ ts, t < v.l.length) → (ts = [] ∧ v.l.length = n0 ∨ n0 < v.l.length ∧ ts.getLast? = some ((v.l.length : Int) - 1)) → endsP s v.p = true → SimI s n0 (.ok (ts.map m120, q)) (.ok (ts, v))
section
variable {s : List UInt8} {rowp : BRd → Except Er (Bool × BRd)} {rowu : BRd → Except Er BRd}
theorem grp_sim {q u : BRd} (h : Cap q u) (a : Nat) (hrow : ∀ q u, Cap q u → SimR s u.l.length (rowp q) (rowu u)) : SimB s u.l.length (grpP s rowp q a) (grpU s rowu u a) := by
 unfold grpP grpU
 rw [h.g]
 by_cases h9 : u.g = 9
 ·rw [if_pos h9, if_pos h9]; exact .er _
 rw [if_neg h9, if_neg h9]
 have hs := hrow { q with g := u.g + 1 } { u with g := u.g + 1 } ⟨h.p, rfl, h.en, h.l⟩
 generalize rowp { q with g := u.g + 1 } = A at hs
 generalize rowu { u with g := u.g + 1 } = B at hs
 cases hs with
 | er e => exact .er _
 | ok q' v hc hn he =>
  simp only at hn ⊢
  have hp := hc.p
  have hiff : (!ah s q'.p [92, 41]) = decide (v.p = s.length) := by
   rw [hp]
   unfold endsP at he
   rw [Bool.or_eq_true, decide_eq_true_eq] at he
   by_cases hv : v.p = s.length
   ·rw [decide_eq_true hv]
    cases ha : ah s v.p [92, 41] with
    | false => rfl
    | true =>
     rcases ah_le ha with t | t
     ·simp only [List.length_cons, List.length_nil] at t; omega
     ·cases t
   ·rw [decide_eq_false hv]
    rcases he with t | t
    ·exact absurd t hv
    ·rw [t]; rfl
  rw [hiff]
  by_cases hbad : v.p = s.length ∨ v.l.length = u.l.length
  ·rw [if_pos hbad, if_pos]
   ·exact .er _
   ·rcases hbad with t | t
    ·rw [decide_eq_true t]; simp
    ·rw [t]; simp
  ·rw [if_neg hbad, if_neg]
   ·have hlen := hc.len
    refine .ok _ _ (Cap.put (q := { q' with p := q'.p + 2, en := fun k => if k = u.g + 1 then true else q'.en k }) (u := { v with p := v.p + 2, en := fun k => if k = u.g + 1 then true else v.en k }) ⟨by show q'.p + 2 = v.p + 2; rw [hp], hc.g, by show (fun k => if k = u.g + 1 then true else q'.en k) = _; rw [hc.en], hc.l⟩ (fun hv => ?_)) ?_
    ·have hv : v.l.length ≤ 120 := hv
     have : q'.l.length = v.l.length := by omega
     rw [this]
    ·rw [pu_len]
     show u.l.length < v.l.length + 1
     omega
   ·simp only [not_or] at hbad
    rw [decide_eq_false hbad.1, decide_eq_true hbad.2]
    simp
theorem esc_sim {q u : BRd} (h : Cap q u) (first : Bool) (hf : first = false → ah s u.p [92, 123] = false) (h92 : s[u.p]? = some 92) (hrow : ∀ q u, Cap q u → SimR s u.l.length (rowp q) (rowu u)) :
  SimB s u.l.length (escP s rowp (q.to (q.p + 1)) q.p) (escU s rowu u first) := by
 unfold escP escU
 have hp := h.p
 have e1 : (q.to (q.p + 1)).p = u.p + 1 := by rw [to_p, hp]
 rw [e1, hp]
 cases hd : s[u.p + 1]? with
 | none => exact .er _
 | some d =>
  simp only
  have put1 : ∀ x, SimB s u.l.length (.ok (((q.to (u.p + 1)).to (u.p + 1 + 1)).put x)) (.ok ((u.to (u.p + 2)).pu x)) := fun x => .ok _ _ (((h.to (u.p + 1)).to (u.p + 1 + 1)).put (u := u.to (u.p + 2)) (fun _ => rfl)) (by rw [pu_len]; exact Nat.lt_succ_self _)
  by_cases h40 : d = 40
  ·rw [if_pos h40, if_pos h40]
   exact grp_sim (u := u.to (u.p + 2)) (h.to (u.p + 1 + 1)) u.p hrow
  rw [if_neg h40, if_neg h40]
  by_cases hdig : (decide (49 ≤ d.toNat) && decide (d.toNat ≤ 57)) = true
  ·rw [if_pos hdig, if_pos hdig]
   have : (q.to (u.p + 1)).en = u.en := h.en
   rw [this]
   by_cases hen : (!u.en (d.toNat - 48)) = true
   ·rw [if_pos hen, if_pos hen]; exact .er _
   ·rw [if_neg hen, if_neg hen]; exact put1 _
  rw [if_neg hdig, if_neg hdig]
  by_cases h110 : d = 110
  ·rw [if_pos h110, if_pos h110]; exact put1 _
  rw [if_neg h110, if_neg h110]
  by_cases hq : d = 47 ∨ d ∈ ([46, 91, 92, 42, 94, 36] : List UInt8)
  ·rw [if_pos hq, if_pos hq]; exact put1 _
  rw [if_neg hq, if_neg hq]
  by_cases h123 : d = 123
  ·have hft : first = true := by
    cases first with
    | true => rfl
    | false =>
     have := hf rfl
     rw [ah_two, h92, hd, h123] at this
     simp at this
   rw [if_pos h123, if_pos ⟨h123, hft⟩]
   exact .er _
  ·rw [if_neg h123, if_neg (fun t => h123 t.1)]
   exact .er _
theorem beh_sim {q u : BRd} (h : Cap q u) (n0 : Nat) (hn : n0 < u.l.length) : SimT s n0 (behP s q) (behU s u) := by
 unfold behP behU
 rw [h.p]
 by_cases ht : (!isTimesP s u.p) = true
 ·rw [if_pos ht, if_pos ht, h.at (by omega)]
  exact .ok _ _ h hn (by simpa using ht)
 rw [if_neg ht, if_neg ht]
 cases htp : timesP s u.p with
 | none => exact .er _
 | some r =>
  obtain ⟨a, b, k⟩ := r
  simp only
  by_cases hk : isTimesP s k = true
  ·rw [if_pos hk, if_pos hk]; exact .er _
  rw [if_neg hk, if_neg hk]
  have hlen := h.len
  have hc : Cap ((q.to k).put ⟨6, 0, 0, 0, 0, (q.l.length : Int) - 1, 0, a, b, 0⟩) ((u.to k).pu ⟨6, 0, 0, 0, 0, (u.l.length : Int) - 1, 0, a, b, 0⟩) := (h.to k).put (fun hu => by
   have hu : u.l.length ≤ 120 := hu
   have : q.l.length = u.l.length := by omega
   rw [this])
  rw [hc.at (by rw [pu_len]; omega)]
  have hkf : isTimesP s k = false := by simpa using hk
  exact .ok _ _ hc (by rw [pu_len]; show n0 < u.l.length + 1; omega) hkf
theorem item_sim {q u : BRd} (h : Cap q u) (first : Bool) (hf : first = false → isTimesP s u.p = false) (hrow : ∀ q u, Cap q u → SimR s u.l.length (rowp q) (rowu u)) (hne : ¬ (s[u.p]? = some 36 ∧ endsP s (u.p + 1) = true)) :
  SimT s u.l.length (itemP s rowp q) (match atomU s rowu u first with
   | .error e => .error e
   | .ok v => behU s v) := by
 unfold itemP atomU
 have hp := h.p
 rw [hp]
 cases hb : s[u.p]? with
 | none => exact .er _
 | some b =>
  simp only
  by_cases h46 : b = 46
  ·rw [if_pos h46, if_pos h46]
   exact beh_sim ((h.to (u.p + 1)).put (fun _ => rfl)) _ (by rw [pu_len]; exact Nat.lt_succ_self _)
  rw [if_neg h46, if_neg h46]
  by_cases h91 : b = 91
  ·rw [if_pos h91, if_pos h91]
   cases hbr : brkP (s.drop u.p) with
   | none => exact .er _
   | some r =>
    obtain ⟨F, n⟩ := r
    exact beh_sim ((h.to (u.p + n)).put (fun _ => rfl)) _ (by rw [pu_len]; exact Nat.lt_succ_self _)
  rw [if_neg h91, if_neg h91]
  by_cases h92 : b = 92
  ·rw [if_pos h92, if_pos h92]
   have E := esc_sim (s := s) (rowp := rowp) (rowu := rowu) h first (fun e => by
    have := hf e
    unfold isTimesP at this
    rw [Bool.or_eq_false_iff] at this
    exact this.2) (by rw [hb, h92]) hrow
   rw [hp] at E
   generalize escP s rowp (q.to (u.p + 1)) u.p = A at E
   generalize escU s rowu u first = B at E
   cases E with
   | er e => exact .er _
   | ok q' v hc hn => exact beh_sim hc _ hn
  rw [if_neg h92, if_neg h92]
  have hne' : ¬ (b = 36 ∧ endsP s (u.p + 1) = true) := fun t => hne ⟨by rw [hb, t.1], t.2⟩
  rw [if_neg hne']
  exact beh_sim ((h.to (u.p + 1)).put (fun _ => rfl)) _ (by rw [pu_len]; exact Nat.lt_succ_self _)
theorem items_sim (hrow : ∀ q u, Cap q u → SimR s u.l.length (rowp q) (rowu u)) (n0 : Nat) : ∀ (f : Nat) (q u : BRd) (first : Bool) (ts : List Int), Cap q u → (first = false → isTimesP s u.p = false) →
  (∀ t ∈ ts, t < u.l.length) → (ts = [] ∧ u.l.length = n0 ∨ n0 < u.l.length ∧ ts.getLast? = some ((u.l.length : Int) - 1)) → SimI s n0 (itemsP s rowp f q (ts.map m120)) (itemsU s rowu f u first ts)
 | 0, q, u, first, ts, h, hf, ht, hl => .er _
 | f + 1, q, u, first, ts, h, hf, ht, hl => by
  rw [itemsP, itemsU, h.p]
  by_cases he : endsP s u.p = true
  ·rw [if_pos he, if_pos he]; exact .ok _ _ _ h ht hl he
  rw [if_neg he, if_neg he]
  by_cases hd : s[u.p]? = some 36 ∧ endsP s (u.p + 1) = true
  ·rw [if_pos hd]
   have hi : itemP s rowp q = .ok (m120 (u.l.length : Int), (q.to (u.p + 1)).put (kindNd 3)) := by
    have hc : Cap ((q.to (u.p + 1)).put (kindNd 3)) ((u.to (u.p + 1)).pu (kindNd 3)) := (h.to (u.p + 1)).put (fun _ => rfl)
    have ha := hc.at (by rw [pu_len]; omega)
    rw [pu_len] at ha
    unfold itemP
    rw [h.p, hd.1]
    simp only
    rw [if_neg (by decide), if_neg (by decide), if_neg (by decide), if_pos ⟨trivial, hd.2⟩, ha]
    congr 2
    show m120 (((u.l.length + 1 : Nat) : Int) - 1) = m120 (u.l.length : Int)
    congr 1
    omega
   rw [hi]
   simp only
   have hc : Cap ((q.to (u.p + 1)).put (kindNd 3)) ((u.to (u.p + 1)).pu (kindNd 3)) := (h.to (u.p + 1)).put (fun _ => rfl)
   have hm : ts.map m120 ++ [m120 (u.l.length : Int)] = (ts ++ [(u.l.length : Int)]).map m120 := by rw [List.map_append]; rfl
   rw [hm]
   refine items_sim hrow n0 f _ _ false _ hc (fun _ => ?_) (fun t hmem => ?_) (.inr ⟨?_, ?_⟩)
   ·show isTimesP s (u.p + 1) = false
    exact ends_times hd.2
   ·rw [pu_len]
    rw [List.mem_append] at hmem
    rcases hmem with t' | t'
    ·have := ht t t'
     show t < ((u.l.length + 1 : Nat) : Int); omega
    ·rw [List.mem_singleton] at t'
     show t < ((u.l.length + 1 : Nat) : Int); omega
   ·rw [pu_len]
    show n0 < u.l.length + 1
    rcases hl with t | t <;> omega
   ·rw [List.getLast?_concat, pu_len]
    congr 1
    show (u.l.length : Int) = ((u.l.length + 1 : Nat) : Int) - 1
    omega
  rw [if_neg hd]
  have I := item_sim h first hf hrow hd
  generalize itemP s rowp q = A at I
  cases hat : atomU s rowu u first with
  | error e =>
   rw [hat] at I
   simp only at I ⊢
   cases I
   exact .er _
  | ok v =>
   rw [hat] at I
   simp only at I ⊢
   generalize behU s v = B at I
   cases I with
   | er e => exact .er _
   | ok q' v' hc hn hti =>
    simp only
    have hm : ts.map m120 ++ [m120 ((v'.l.length : Int) - 1)] = (ts ++ [(v'.l.length : Int) - 1]).map m120 := by rw [List.map_append]; rfl
    rw [hm]
    refine items_sim hrow n0 f q' v' false _ hc (fun _ => hti) (fun t hmem => ?_) (.inr ⟨?_, ?_⟩)
    ·rw [List.mem_append] at hmem
     rcases hmem with t' | t'
     ·have := ht t t'; omega
     ·rw [List.mem_singleton] at t'; omega
    ·rcases hl with t | t <;> omega
    ·rw [List.getLast?_concat]
end
theorem row_end {s : List UInt8} {n0 : Nat} {A B : Except Er (List Int × BRd)} : SimI s n0 A B → SimR s n0
  (match A with
   | .error e => .error e
   | .ok (ps, q) => match ps.reverse with
    | [] => .ok (false, q)
    | b :: tl => .ok (true, catsP tl q b))
  (match B with
   | .error e => .error e
   | .ok (ps, q) => .ok (catsU ps.reverse.tail q)) := by
 intro I
 cases I with
 | er e => exact .er _
 | ok ts q v hc ht hl he =>
  simp only
  rw [← List.map_reverse]
  cases hr : ts.reverse with
  | nil =>
   have hts : ts = [] := by simpa using hr
   simp only [List.map_nil, List.tail_nil]
   have hn : v.l.length = n0 := by
    rcases hl with t | t
    ·exact t.2
    ·rw [hts] at t; simp at t
   have := SimR.ok (s := s) (n0 := n0) q v hc (by omega) he
   rw [decide_eq_false (by omega)] at this
   exact this
  | cons b tl =>
   simp only [List.map_cons, List.tail_cons]
   have hne : ts ≠ [] := fun e => by rw [e] at hr; cases hr
   rcases hl with t | t
   ·exact absurd t.1 hne
   have hb : b = (v.l.length : Int) - 1 := by
    have h1 := t.2
    rw [← List.head?_reverse, hr] at h1
    simpa using h1
   have hcat := cats_cap tl q v (m120 b) hc (fun t' hm => ht t' (by
    rw [← List.mem_reverse, hr]; exact List.mem_cons_of_mem _ hm)) (by omega) (by rw [hb])
   have hlen := catsU_len tl v
   have := SimR.ok (s := s) (n0 := n0) _ _ hcat (by omega) (by rw [catsU_p]; exact he)
   rw [decide_eq_true (by omega)] at this
   exact this
theorem row_sim (s : List UInt8) : ∀ (f : Nat) (q u : BRd), Cap q u → SimR s u.l.length (rowP s f q) (rowU s f u)
 | 0, q, u, h => .er _
 | f + 1, q, u, h => by
  rw [rowP, rowU]
  simp only [h.p]
  by_cases ha : ah s u.p [94] = true
  ·rw [if_pos ha, if_pos ha, if_pos ha, if_pos ha]
   have hc : Cap ((q.to (u.p + 1)).put (kindNd 2)) ((u.to (u.p + 1)).pu (kindNd 2)) := (h.to (u.p + 1)).put (fun _ => rfl)
   have hat := hc.at (by rw [pu_len]; omega)
   have hm : m120 ((((u.to (u.p + 1)).pu (kindNd 2)).l.length : Int) - 1) = m120 (u.l.length : Int) := by
    rw [pu_len]
    congr 1
    show ((u.l.length + 1 : Nat) : Int) - 1 = u.l.length
    omega
   rw [hat, hm]
   have I := items_sim (s := s) (rowp := rowP s f) (rowu := rowU s f) (fun q u h => row_sim s f q u h) u.l.length (s.length + 1) _ _ true [(u.l.length : Int)] hc (fun e => by cases e)
    (fun t ht => by rw [List.mem_singleton] at ht; rw [pu_len]; show t < ((u.l.length + 1 : Nat) : Int); omega)
    (.inr ⟨by rw [pu_len]; exact Nat.lt_succ_self _, by rw [pu_len]; show some _ = some _; congr 1; show (u.l.length : Int) = ((u.l.length + 1 : Nat) : Int) - 1; omega⟩)
   rw [show ([(u.l.length : Int)].map m120) = [m120 (u.l.length : Int)] from rfl] at I
   exact row_end I
  ·rw [if_neg ha, if_neg ha, if_neg ha, if_neg ha]
   have I := items_sim (s := s) (rowp := rowP s f) (rowu := rowU s f) (fun q u h => row_sim s f q u h) u.l.length (s.length + 1) _ _ true [] h (fun e => by cases e) (fun t ht => by cases ht) (.inl ⟨rfl, rfl⟩)
   exact row_end I
theorem parse_same (s : List UInt8) : parseU s = (match wholeP s with
  | .error e => .error e
  | .ok q => .ok q.l) := by
 unfold parseU wholeP
 simp only
 by_cases hs : s = []
 ·rw [if_pos hs, if_pos hs]; rfl
 rw [if_neg hs, if_neg hs]
 have R := row_sim s 10 ⟨0, [], 0, fun _ => false⟩ ⟨0, [], 0, fun _ => false⟩ ⟨rfl, rfl, rfl, rfl⟩
 generalize rowP s 10 ⟨0, [], 0, fun _ => false⟩ = A at R
 generalize rowU s 10 ⟨0, [], 0, fun _ => false⟩ = B at R
 cases R with
 | er e => rfl
 | ok q v hc hn he =>
  simp only
  rw [hc.p]
  have hl := hc.len
  by_cases hp : v.p ≠ s.length
  ·rw [if_pos hp, if_pos hp]
  rw [if_neg hp, if_neg hp]
  by_cases hw : 120 < v.l.length
  ·rw [if_pos hw, if_pos (by omega)]
  ·rw [if_neg hw, if_neg (by omega)]
   simp only
   rw [hc.l, List.take_of_length_le (by omega)]
end Go.Proofs.YtkcbknfhckomcaaGreatDoor
namespace Go.Proofs.YtkcbknfhckomcaaGreatDoor
open Go.RowKit Go.Lib
def dScan (l : List UInt8) : Nat → Nat → Nat → Nat × Nat
 | 0, i, n => (n, i)
 | f + 1, i, n => match l[i]? with
  | none => (n, i)
  | some c => if isDig c then dScan l f (i + 1) (n * 10 + (c.toNat - 48)) else (n, i)
theorem dScan_eq (l : List UInt8) : ∀ (f i n : Nat), dScan l f i n = ((((l.drop i).take f).takeWhile isDig).foldl (fun n b => n * 10 + (b.toNat - 48)) n, i + (((l.drop i).take f).takeWhile isDig).length)
 | 0, i, n => by simp [dScan]
 | f + 1, i, n => by
  unfold dScan
  cases h : l[i]? with
  | none =>
   have : l.drop i = [] := by rw [List.drop_eq_nil_iff]; rw [List.getElem?_eq_none_iff] at h; exact h
   simp [this]
  | some c =>
   obtain ⟨hi, hc⟩ := List.getElem?_eq_some_iff.1 h
   have hd : l.drop i = c :: l.drop (i + 1) := by rw [List.drop_eq_getElem_cons hi, hc]
   simp only
   rw [hd, List.take_succ_cons, List.takeWhile_cons]
   by_cases hg : isDig c = true
   ·rw [if_pos hg, if_pos hg, dScan_eq l f (i + 1)]
    simp only [List.foldl_cons, List.length_cons]
    congr 1
    omega
   ·rw [if_neg hg, if_neg hg]
    simp
theorem dScan_num (l : List UInt8) (i : Nat) : dScan l 3 i 0 = (valP (digsP l i), i + (digsP l i).length) := dScan_eq l 3 i 0
def digU (l : List UInt8) (i : Nat) : Int × Int := if (numP l i).2.1 then ((numP l i).1, ((numP l i).2.2 : Int)) else (0, -1)
theorem digU_yes {l : List UInt8} {i n k : Nat} (h : dScan l 3 i 0 = (n, k)) (hk : k ≠ i) : digU l i = ((n : Int), (k : Int)) := by
 rw [dScan_num] at h
 cases h
 unfold digU numP
 have : (digsP l i).isEmpty = false := by
  cases hd : digsP l i with
  | nil => rw [hd] at hk; simp at hk
  | cons a b => rfl
 simp [this]
theorem digU_no {l : List UInt8} {i n k : Nat} (h : dScan l 3 i 0 = (n, k)) (hk : k = i) : digU l i = (0, -1) := by
 rw [dScan_num] at h
 cases h
 have : digsP l i = [] := List.eq_nil_of_length_eq_zero (by omega)
 unfold digU numP
 simp [this]
theorem dScan_end (l : List UInt8) (f i n : Nat) (h : l.length ≤ i) : dScan l f i n = (n, i) := by
 cases f with
 | zero => rfl
 | succ f => simp [dScan, List.getElem?_eq_none h]
theorem dScan_stop (l : List UInt8) (f i n : Nat) (c : UInt8) (h : l[i]? = some c) (hc : isDig c = false) : dScan l f i n = (n, i) := by
 cases f with
 | zero => rfl
 | succ f => simp [dScan, h, hc]
theorem digitsU_c (l : List UInt8) (hl : l.length ≤ 100000) (a : Nat) (ha : a ≤ l.length) (w : World) :
  Calls Tryz.prog 105 #[.string ⟨l.toArray⟩, .int .i64 a] w fun r w' => r = .returned (.tuple #[.int .i64 (digU l a).1, .int .i64 (digU l a).2]) ∧ w' = w := by
 have hsz : (⟨l.toArray⟩ : ByteArray).size = l.length := by simp [ByteArray.size]
 have hw3 : IntKind.i64.wrap ((a : Int) + 3) = (a : Int) + 3 := by simp [IntKind.wrap, IntKind.signed, IntKind.bits]; omega
 obtain ⟨R, hR⟩ : ∃ R, R = digU l a := ⟨_, rfl⟩
 rw [← hR]
 have HR := Lib.hid hR
 clear hR
 go_enter Tryz.func105, Tryz.ntmps105
 go_wp2
 go_loopg [6, 7] (l.length - a) (fun g n i wr => ∃ k m f : Nat, g = l.length - k ∧ k + f = a + 3 ∧ a ≤ k ∧ f ≤ 3 ∧ k ≤ l.length ∧ m < 10 ^ (3 - f) ∧ i = .int .i64 k ∧ n = .int .i64 m ∧ dScan l 3 a 0 = dScan l f k m ∧ wr = w)
 case atStart => exact ⟨a, 0, 3, rfl, rfl, Nat.le_refl _, Nat.le_refl _, ha, by decide, rfl, rfl, rfl, rfl⟩
 case round =>
  obtain ⟨k, m, f, rfl, hkf, hak, hf, hk, hm, rfl, rfl, hn, rfl⟩ := hrel
  have HN := Lib.hid hn
  clear hn
  have hend : ∀ (q : dScan l f k m = (m, k)), Hid (R = (if k = a then (0, -1) else ((m : Int), (k : Int)))) := fun q => Lib.hid (by
   by_cases hka : k = a
   ·rw [if_pos hka, HR.out]; exact digU_no (HN.out.trans q) hka
   ·rw [if_neg hka, HR.out]; exact digU_yes (HN.out.trans q) hka)
  by_cases hlt : k < l.length
  ·obtain ⟨c, hc⟩ : ∃ c, l[k]? = some c := ⟨l[k], List.getElem?_eq_getElem hlt⟩
   have hx1 := fun W => ixm_c l k c hc W
   have g1 : ((k : Int) < l.length) = True := by simp; omega
   match f, hkf, hf, hm, HN, hend with
   | 0, hkf, hf, hm, HN, hend =>
    have g2 : ((k : Int) < (a : Int) + 3) = False := by simp; omega
    have HR2 := hend rfl
    rw [if_neg (by omega)] at HR2
    have g3 : ((k : Int) == a) = false := by rw [beq_eq_false_iff_ne]; omega
    clear HR hend hc HN
    generalize c.toNat = C at *
    go_wp2
    refine bodyPost_ret (v := .tuple #[.int .i64 m, .int .i64 k]) (by simp [results, Tryz.results105, go_sem]) rfl ?_
    exact ⟨by rw [HR2.out], rfl⟩
   | f + 1, hkf, hf, hm, HN, hend =>
    have g2 : ((k : Int) < (a : Int) + 3) = True := by simp; omega
    by_cases hg : isDig c = true
    ·have hstep : dScan l (f + 1) k m = dScan l f (k + 1) (m * 10 + (c.toNat - 48)) := by simp [dScan, hc, hg]
     have HN2 := Lib.hid (HN.out.trans hstep)
     unfold isDig at hg
     rw [Bool.and_eq_true, decide_eq_true_eq, decide_eq_true_eq] at hg
     have hm' : m < 100 := by
      have : (10 : Nat) ^ (3 - (f + 1)) ≤ 10 ^ 2 := Nat.pow_le_pow_right (by omega) (by omega)
      omega
     have hp : (10 : Nat) ^ (3 - f) = 10 ^ (3 - (f + 1)) * 10 := by
      rw [← Nat.pow_succ]; congr 1; omega
     have e5 : IntKind.i64.wrap ((k : Int) + 1) = (k : Int) + 1 := by simp [IntKind.wrap, IntKind.signed, IntKind.bits]; omega
     generalize (10 : Nat) ^ (3 - (f + 1)) = P at *
     clear HN hstep hend hc HR
     generalize c.toNat = C at *
     have t1 : ((48 : Int) ≤ C) = True := by simp; omega
     have t2 : ((C : Int) ≤ 57) = True := by simp; omega
     have e1 : IntKind.i64.wrap ((m : Int) * 10) = (m : Int) * 10 := by simp [IntKind.wrap, IntKind.signed, IntKind.bits]; omega
     have e2 : IntKind.u8.wrap ((C : Int) - 48) = (C : Int) - 48 := by simp [IntKind.wrap, IntKind.signed, IntKind.bits]; omega
     have e3 : IntKind.i64.wrap ((C : Int) - 48) = (C : Int) - 48 := by simp [IntKind.wrap, IntKind.signed, IntKind.bits]; omega
     have e4 : IntKind.i64.wrap ((m : Int) * 10 + ((C : Int) - 48)) = (m : Int) * 10 + ((C : Int) - 48) := by simp [IntKind.wrap, IntKind.signed, IntKind.bits]; omega
     go_wp2
     go_roundg (l.length - (k + 1))
     case measure => omega
     case rel => exact ⟨k + 1, m * 10 + (C - 48), f, rfl, by omega, by omega, by omega, by omega, by omega, by simp, by congr 1; omega, HN2.out, rfl⟩
    ·have HR2 := hend (dScan_stop l (f + 1) k m c hc (by simpa using hg))
     unfold isDig at hg
     clear HR hend hc HN
     generalize c.toNat = C at *
     by_cases h48 : 48 ≤ C
     ·have t1 : ((48 : Int) ≤ C) = True := by simp; omega
      have h57 : ¬ C ≤ 57 := fun h => hg (by simp [h48, h])
      have t2 : ((C : Int) ≤ 57) = False := by simp; omega
      clear hg
      by_cases hka : k = a
      ·rw [if_pos hka] at HR2
       subst hka
       go_wp2
       refine bodyPost_ret (v := .tuple #[.int .i64 0, .int .i64 (-1)]) (by simp [results, Tryz.results105, go_sem]) rfl ?_
       exact ⟨by rw [HR2.out], rfl⟩
      ·rw [if_neg hka] at HR2
       have g3 : ((k : Int) == a) = false := by rw [beq_eq_false_iff_ne]; omega
       go_wp2
       refine bodyPost_ret (v := .tuple #[.int .i64 m, .int .i64 k]) (by simp [results, Tryz.results105, go_sem]) rfl ?_
       exact ⟨by rw [HR2.out], rfl⟩
     ·have t1 : ((48 : Int) ≤ C) = False := by simp; omega
      clear hg
      by_cases hka : k = a
      ·rw [if_pos hka] at HR2
       subst hka
       go_wp2
       refine bodyPost_ret (v := .tuple #[.int .i64 0, .int .i64 (-1)]) (by simp [results, Tryz.results105, go_sem]) rfl ?_
       exact ⟨by rw [HR2.out], rfl⟩
      ·rw [if_neg hka] at HR2
       have g3 : ((k : Int) == a) = false := by rw [beq_eq_false_iff_ne]; omega
       go_wp2
       refine bodyPost_ret (v := .tuple #[.int .i64 m, .int .i64 k]) (by simp [results, Tryz.results105, go_sem]) rfl ?_
       exact ⟨by rw [HR2.out], rfl⟩
  ·have g1 : ((k : Int) < l.length) = False := by simp; omega
   have HR2 := hend (dScan_end l f k m (by omega))
   clear HR hend HN
   by_cases hka : k = a
   ·rw [if_pos hka] at HR2
    subst hka
    go_wp2
    refine bodyPost_ret (v := .tuple #[.int .i64 0, .int .i64 (-1)]) (by simp [results, Tryz.results105, go_sem]) rfl ?_
    exact ⟨by rw [HR2.out], rfl⟩
   ·rw [if_neg hka] at HR2
    have g3 : ((k : Int) == a) = false := by rw [beq_eq_false_iff_ne]; omega
    go_wp2
    refine bodyPost_ret (v := .tuple #[.int .i64 m, .int .i64 k]) (by simp [results, Tryz.results105, go_sem]) rfl ?_
    exact ⟨by rw [HR2.out], rfl⟩
end Go.Proofs.YtkcbknfhckomcaaGreatDoor
