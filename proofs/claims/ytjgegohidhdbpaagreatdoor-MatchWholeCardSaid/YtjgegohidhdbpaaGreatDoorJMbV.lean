/- The contracts of Cut, of the document's own answer to it, and of what the statements show first. -/
import Derived.Test.YtjgegohidhdbpaaGreatDoorJSpanD
open Go.Proofs.Tryz
set_option linter.unusedVariables false
set_option linter.unusedSimpArgs false
set_option maxRecDepth 100000
set_option maxHeartbeats 40000000
namespace Go.Proofs.YtjgegohidhdbpaaGreatDoor
open Go.RowKit Go.Proofs.YtjgegohidhdbpaaGreatDoor.Fl
theorem qi5 (t : ByteArray) (x y : Nat) (w : World) (h : sp x y = none) :
  Calls prog 38 #[.string t, .complex .f64 x y] w fun e w' => e = .returned (.string ByteArray.empty) ∧ w = w' := by
 have H1 := ξ (fun w => Xl x y w h)
 clear h
 go_enter func38, ntmps38
 go_wp2_with fail
 refine yY 0 rfl ?_
 go_wp2_with fail
 refine (H1.out _).mono ?_; rintro e w' ⟨rfl, rfl⟩
 go_wp2
 go_step3
 refine ⟨rfl, ?_⟩
 change Code.wp _ _ _ _ _
 go_wp2
 rw [Exit.noGoto_ret]
 go_ret
 exact ⟨rfl, rfl⟩
theorem qi6 (t : ByteArray) (x y m n : Nat) (w : World) (ht : t.size ≤ maxLen) (h : sp x y = some ((m : Int), (n : Int))) (h1 : m ≤ n) (h2 : n ≤ t.size) :
  Calls prog 38 #[.string t, .complex .f64 x y] w fun e w' => e = .returned (.string (t.extract m n)) ∧ w = w' := by
 unfold maxLen at ht
 have H1 := ξ (fun w => Jq x y m n w h)
 have H2 := ξ (fun w => J3 x y m n w h)
 have H3 := ξ (fun w => U5 x y m n w h)
 have c0 : ¬ (t.size : Int) < m := by omega
 have c1 : ¬ (t.size : Int) < n := by omega
 have e1 : min (m : Int) (t.size : Int) = (m : Int) := by omega
 have e2 : min (n : Int) (t.size : Int) = (n : Int) := by omega
 clear h
 go_enter func38, ntmps38
 go_wp2_with fail
 go_step3
 go_wp2_with fail
 refine (H1.out _).mono ?_; rintro e w' ⟨rfl, rfl⟩
 go_wp2_with fail
 refine (H2.out _).mono ?_; rintro e w' ⟨rfl, rfl⟩
 go_wp2_with fail
 refine (H3.out _).mono ?_; rintro e w' ⟨rfl, rfl⟩
 go_wp2
 rw [Exit.noGoto_ret]
 go_ret
 exact ⟨rfl, rfl⟩
def Zn (t : ByteArray) (m n k : Nat) : ByteArray := t.extract (min m k) (min n k)
theorem J5 (t : ByteArray) (k : Nat) : t.extract k k = ByteArray.empty := by
 apply ByteArray.ext
 rw [ByteArray.data_extract]
 have h : (t.data.extract k k).size = 0 := by rw [Array.size_extract]; omega
 rw [Array.size_eq_zero_iff] at h
 rw [h]; rfl
theorem U6 (t : ByteArray) (k : Nat) (h : k + 1 ≤ t.size) (w : World) :
  Sem.run prog (Instr.slice 9 (.string t) (some (.int .i64 (k : Int))) (some (.int .i64 ((k : Int) + 1))) none) w = .ok (.string (t.extract k (k + 1))) w := by
 have e1 : ((k : Int) + 1).toNat = k + 1 := by omega
 have hu : Tryz.prog.underlying 9 = some .string := by kernel_rfl
 have hb : Sem.run prog (Instr.sliceBound (.int .i64 (k : Int)) (k + 1) .sliceB) w = .ok k w := by
  rw [run_sliceBound w .i64 (k : Int) (k + 1) .sliceB (by omega) (by omega)]; rfl
 simp [Instr.slice, hb, run_underlying hu, Instr.sliceBounds, run_sliceBound, e1, (by omega : (0 : Int) ≤ (k : Int) + 1), (by omega : (k : Int) + 1 ≤ (t.size : Int))]
theorem U7 (t : ByteArray) (m n k : Nat) (hmn : m ≤ n) (h : k < m) : Zn t m n (k + 1) = Zn t m n k := by
 unfold Zn
 rw [Nat.min_eq_right (by omega), Nat.min_eq_right (by omega), Nat.min_eq_right (by omega), Nat.min_eq_right (by omega), J5, J5]
theorem WP (t : ByteArray) (m n k : Nat) (hmn : m ≤ n) (h : n ≤ k) : Zn t m n (k + 1) = Zn t m n k := by
 unfold Zn
 rw [Nat.min_eq_left (by omega), Nat.min_eq_left (by omega), Nat.min_eq_left (by omega), Nat.min_eq_left (by omega)]
theorem qgo (t : ByteArray) (m n k : Nat) (h0 : m ≤ k) (h1 : k < n) : Zn t m n (k + 1) = Zn t m n k ++ t.extract k (k + 1) := by
 unfold Zn
 rw [Nat.min_eq_left (by omega), Nat.min_eq_right (by omega), Nat.min_eq_left (by omega), Nat.min_eq_right (by omega)]
 rw [ByteArray.extract_append_extract]
 congr 1 <;> omega
theorem qbo (t : ByteArray) (m n : Nat) : Zn t m n 0 = ByteArray.empty := by
 unfold Zn; rw [Nat.min_zero, Nat.min_zero, J5]
theorem qbp (t : ByteArray) (m n k : Nat) : (Zn t m n k).size ≤ t.size := by
 unfold Zn; rw [ByteArray.size_extract]; omega
theorem qdt (t : ByteArray) (x y m n : Nat) (w : World) (ht : t.size ≤ 300) (h : sp x y = some ((m : Int), (n : Int))) :
  Calls prog 39 #[.string t, .complex .f64 x y] w fun e w' => e = .returned (.string (Zn t m n t.size)) ∧ w = w' := by
 obtain ⟨_, _, _, h1, _⟩ := yj h
 have hmn : m ≤ n := Int.ofNat_le.1 h1
 have C1 := fun w => qbb x y w
 rw [h] at C1
 have H1 := ξ C1
 have H2 := ξ (fun w => qbq x y m n w h)
 have H3 := ξ (fun w => qgp x y m n w h)
 clear C1 h h1
 go_enter func39, ntmps39
 go_wp2
 go_loop [5, 6] (fun o i => ∃ k : Nat, k ≤ t.size ∧ i = .int .i64 k ∧ o = .string (Zn t m n k)) (fun _ i => t.size - (RowKit.intOf i).toNat)
 case atStart => exact ⟨0, Nat.zero_le _, rfl, by rw [qbo]; rfl⟩
 case round =>
  obtain ⟨k, hk, rfl, rfl⟩ := hrel
  have kR := qbp t m n k
  by_cases zb : k < t.size
  ·by_cases q1 : k < m
   ·go_wp2_with fail
    refine (H1.out _).mono ?_; rintro e w' ⟨rfl, rfl⟩
    go_wp2_with fail
    refine (H2.out _).mono ?_; rintro e w' ⟨rfl, rfl⟩
    go_wp2
    go_round
    case rel => exact ⟨k + 1, by omega, by go_num, by rw [U7 t m n k hmn q1]⟩
    case measure => simp [RowKit.intOf]; omega
   ·by_cases q2 : k < n
    ·have jp := U6 t k zb
     go_wp2_with fail
     refine (H1.out _).mono ?_; rintro e w' ⟨rfl, rfl⟩
     go_wp2_with fail
     refine (H2.out _).mono ?_; rintro e w' ⟨rfl, rfl⟩
     go_wp2_with fail
     refine (H3.out _).mono ?_; rintro e w' ⟨rfl, rfl⟩
     go_wp2
     go_round
     case rel => exact ⟨k + 1, by omega, by go_num, by rw [qgo t m n k (by omega) q2]⟩
     case measure => simp [RowKit.intOf]; omega
    ·go_wp2_with fail
     refine (H1.out _).mono ?_; rintro e w' ⟨rfl, rfl⟩
     go_wp2_with fail
     refine (H2.out _).mono ?_; rintro e w' ⟨rfl, rfl⟩
     go_wp2_with fail
     refine (H3.out _).mono ?_; rintro e w' ⟨rfl, rfl⟩
     go_wp2
     go_round
     case rel => exact ⟨k + 1, by omega, by go_num, by rw [WP t m n k hmn (by omega)]⟩
     case measure => simp [RowKit.intOf]; omega
  ·have : k = t.size := by omega
   subst this
   go_wp2
   go_ret
   exact ⟨rfl, rfl⟩
theorem qfM (t : ByteArray) (x y : Nat) (w : World) (ht : t.size ≤ 300) (h : sp x y = none) :
  Calls prog 39 #[.string t, .complex .f64 x y] w fun e w' => e = .returned (.string ByteArray.empty) ∧ w = w' := by
 have C1 := fun w => qbb x y w
 rw [h] at C1
 have H1 := ξ C1
 clear C1 h
 go_enter func39, ntmps39
 go_wp2
 go_loop [5, 6] (fun o i => ∃ k : Nat, k ≤ t.size ∧ i = .int .i64 k ∧ o = .string ByteArray.empty) (fun _ i => t.size - (RowKit.intOf i).toNat)
 case atStart => exact ⟨0, Nat.zero_le _, rfl, rfl⟩
 case round =>
  obtain ⟨k, hk, rfl, rfl⟩ := hrel
  by_cases zb : k < t.size
  ·go_wp2_with fail
   refine (H1.out _).mono ?_; rintro e w' ⟨rfl, rfl⟩
   go_wp2
   go_round
   case rel => exact ⟨k + 1, by omega, by go_num, rfl⟩
   case measure => simp [RowKit.intOf]; omega
  ·go_wp2
   go_ret
   exact ⟨rfl, rfl⟩
def ZW (s : List UInt8) : Option (Nat × Nat) → List UInt8
 | some (a, b) => (s.drop a).take (b - a)
 | none => []
theorem Z0 (s : List UInt8) (a b : Nat) : (⟨s.toArray⟩ : ByteArray).extract a b = ⟨((s.drop a).take (b - a)).toArray⟩ := by
 apply ByteArray.ext
 rw [ByteArray.data_extract]
 simp [List.extract_eq_take_drop]
theorem qdY (s : List UInt8) (hs : s.length ≤ 999999999) (o : Option (Nat × Nat)) (ho : ∀ a b, o = some (a, b) → a ≤ b ∧ b ≤ s.length) (w : World) :
  Calls prog 38 #[.string ⟨s.toArray⟩, qj o] w fun e w' => e = .returned (.string ⟨(ZW s o).toArray⟩) ∧ w' = w := by
 cases o with
 | none =>
  refine (qi5 ⟨s.toArray⟩ qf qf w (by unfold sp; rw [yR]; rfl)).mono ?_
  rintro e w' ⟨h1, h2⟩; exact ⟨h1, h2.symm⟩
 | some p =>
  obtain ⟨a, b⟩ := p
  obtain ⟨h1, h2⟩ := ho a b rfl
  have hv : ∀ a : Nat, a ≤ 999999999 → val (floatOfInt .f64 (a : Int)) = some (a : Int) := fun a h => zX (by have : (2 : Nat) ^ 53 = 9007199254740992 := rfl; omega)
  have kR : (⟨s.toArray⟩ : ByteArray).size = s.length := by simp [ByteArray.size]
  refine (qi6 ⟨s.toArray⟩ (floatOfInt .f64 (a : Int)) (floatOfInt .f64 (b : Int)) a b w (by rw [kR]; unfold maxLen; omega) (JM (hv a (by omega)) (hv b (by omega)) (by omega) (by omega) (by omega)) h1 (by rw [kR]; exact h2)).mono ?_
  rintro e w' ⟨h3, h4⟩
  refine ⟨?_, h4.symm⟩
  rw [h3, Z0]
  rfl
theorem JF (s : List UInt8) (hs : s.length ≤ 999999999) (c : Cp) (hc : qo s.length c) (n : Int) (w : World) :
  Calls prog 12 #[.string ⟨s.toArray⟩, qk c, .int .i64 n] w fun e w' => e = .returned (.string ⟨(if 0 ≤ n ∧ n ≤ 9 then ZW s (c n.toNat) else []).toArray⟩) ∧ Below w.heap.size w w' := by
 unfold qk
 by_cases h0 : 0 ≤ n
 ·obtain ⟨k, rfl⟩ := Int.eq_ofNat_of_zero_le h0
  by_cases h1 : k < 10
  ·rw [if_pos ⟨h0, by omega⟩, Int.toNat_natCast]
   have HC := ξ (fun w => qdY s hs (c k) (fun a b e => hc k a b e) w)
   have he : ∀ h, [qj (c 0), qj (c 1), qj (c 2), qj (c 3), qj (c 4), qj (c 5), qj (c 6), qj (c 7), qj (c 8), qj (c 9)][k]'h = qj (c k) := fun h => by
    rcases (by omega : k = 0 ∨ k = 1 ∨ k = 2 ∨ k = 3 ∨ k = 4 ∨ k = 5 ∨ k = 6 ∨ k = 7 ∨ k = 8 ∨ k = 9) with rfl | rfl | rfl | rfl | rfl | rfl | rfl | rfl | rfl | rfl <;> rfl
   have HE := ξ he
   clear he
   go_enter func12, ntmps12
   go_wp2_with fail
   rw [HE.out]
   refine (HC.out _).mono ?_
   rintro e w1 ⟨rfl, rfl⟩
   go_wp2
   go_ret
   exact ⟨rfl, (Below.refl _ w).alloc (Nat.le_refl _) _⟩
  ·rw [if_neg (by omega)]
   have hk : ¬ (k : Int) < 10 := by omega
   go_enter func12, ntmps12
   go_wp2
   go_ret
   exact ⟨rfl, (Below.refl _ w).alloc (Nat.le_refl _) _⟩
 ·rw [if_neg (fun h => h0 h.1)]
  go_enter func12, ntmps12
  go_wp2
  go_ret
  exact ⟨rfl, (Below.refl _ w).alloc (Nat.le_refl _) _⟩
end Go.Proofs.YtjgegohidhdbpaaGreatDoor
namespace Go.Proofs.YtjgegohidhdbpaaGreatDoor
open Go.RowKit Go.Maps Go.WideMaps
noncomputable def pkey (P : Nat → Int × Int) : Lit := (keyOf prog 168 (WN P)).getD (.bool false)
def partsOf (G : Gs) (had : Cp) : Nat → Int × Int := fun g => if G g then (match had g with | some (a, b) => ((a : Int), (b : Int)) | none => (-1, -1)) else (0, 0)
theorem qdZ {G : Gs} {had : Cp} {n : Nat} (hc : qo n had) (hn : n ≤ 999999999) (k : Nat) : (Lit.int .i64 (partsOf G had k).1).wf = true ∧ (Lit.int .i64 (partsOf G had k).2).wf = true := by
 unfold partsOf
 split
 ·cases hh : had k with
  | none => exact ⟨ZG (by simp), ZG (by simp)⟩
  | some p =>
   obtain ⟨a, b⟩ := p
   have := hc k a b hh
   exact ⟨ZG (by simp; omega), ZG (by simp; omega)⟩
 ·exact ⟨ZG (by simp), ZG (by simp)⟩
theorem Xk {G : Gs} {had : Cp} {n : Nat} (hc : qo n had) (hn : n ≤ 999999999) : keyOf prog 168 (WN (partsOf G had)) = some (pkey (partsOf G had)) := by
 obtain ⟨l, hl⟩ := WQ (partsOf G had) (fun k _ => qdZ hc hn k)
 unfold pkey
 rw [hl]; rfl
theorem qi7 {P Q : Nat → Int × Int} (h : WN P = WN Q) : ∀ k, k < 10 → P k = Q k := by
 simp only [WN, Value.agg.injEq, Array.mk.injEq, List.cons.injEq, Value.int.injEq, true_and, and_true] at h
 intro k hk
 rcases (by omega : k = 0 ∨ k = 1 ∨ k = 2 ∨ k = 3 ∨ k = 4 ∨ k = 5 ∨ k = 6 ∨ k = 7 ∨ k = 8 ∨ k = 9) with rfl | rfl | rfl | rfl | rfl | rfl | rfl | rfl | rfl | rfl <;> exact Prod.ext (by simp [h]) (by simp [h])
theorem qbr {G : Gs} {had qw : Cp} {n : Nat} (hG : ∀ g, G g = true → g < 10) (hc : qo n had) (kZ : qo n qw) (hn : n ≤ 999999999) (h : pkey (partsOf G had) = pkey (partsOf G qw)) : ∀ g, G g = true → had g = qw g := by
 have e := kJ.inj (Xk hc hn) (by rw [h]; exact Xk kZ hn)
 intro g hg
 have := qi7 e g (hG g hg)
 unfold partsOf at this
 rw [if_pos hg, if_pos hg] at this
 cases h1 : had g with
 | none =>
  cases h2 : qw g with
  | none => rfl
  | some p => obtain ⟨a, b⟩ := p; rw [h1, h2] at this; simp at this
 | some p =>
  obtain ⟨a, b⟩ := p
  cases h2 : qw g with
  | none => rw [h1, h2] at this; simp at this
  | some q =>
   obtain ⟨c, d⟩ := q
   rw [h1, h2] at this
   simp only [Prod.mk.injEq] at this
   rw [show a = c by omega, show b = d by omega]
noncomputable def numL (es : List Lit) : Lit → Option Value := fun l => (pos es l).map fun k => .int .i64 ((k + 1 : Nat) : Int)
noncomputable def nOf (es : List Lit) (G : Gs) (had : Cp) : Option Nat := if XP G = true then some 0 else (pos es (pkey (partsOf G had))).map (· + 1)
theorem Jn {es fs : List Lit} {G : Gs} {had : Cp} {q : Nat} (hp : es <+: fs) (h : nOf es G had = some q) : nOf fs G had = some q := by
 obtain ⟨r, rfl⟩ := hp
 unfold nOf at h ⊢
 split at h
 ·rename_i hn; rw [if_pos hn]; exact h
 ·rename_i hn
  rw [if_neg hn]
  cases hp : pos es (pkey (partsOf G had)) with
  | none => rw [hp] at h; cases h
  | some k => rw [qau r hp]; rw [hp] at h; exact h
theorem WH {es : List Lit} {S : Sem} {had qw : Cp} {q n : Nat} (hS : vt n S) (hc : qo n had) (kZ : qo n qw) (hn : n ≤ 999999999) (h : nOf es S.asked had = some q) (h' : nOf es S.asked qw = some q) : ∀ g, S.asked g = true → had g = qw g := by
 unfold nOf at h h'
 split at h
 ·rename_i kz
  intro g hg
  have := jg.1 kz g (hS.ten g (.inl hg))
  rw [hg] at this; cases this
 ·rename_i kz
  rw [if_neg kz] at h'
  cases h1 : pos es (pkey (partsOf S.asked had)) with
  | none => rw [h1] at h; cases h
  | some k =>
   cases h2 : pos es (pkey (partsOf S.asked qw)) with
   | none => rw [h2] at h'; cases h'
   | some k' =>
    rw [h1] at h; rw [h2] at h'
    have a := Option.some.inj h
    have b := Option.some.inj h'
    simp only at a b
    obtain rfl : k = k' := by omega
    refine qbr (fun g hg => hS.ten g (.inl hg)) hc kZ hn ?_
    have e1 := (J4 h1).2
    have e2 := (J4 h2).2
    rw [e1] at e2
    exact Option.some.inj e2
def PV (N b : Nat) : Value := .slice (some ⟨b, 0, none⟩) N N
def okP (n : Nat) (l : Lit) : Prop := ∃ (G : Gs) (had : Cp), (∀ g, G g = true → 1 ≤ g ∧ g < 10) ∧ qo n had ∧ l = pkey (partsOf G had)
def okS (n len B Q : Nat) (l : Lit) : Prop := ∃ i p c q : Nat, i < n ∧ p ≤ len ∧ c ≤ B ∧ q ≤ Q ∧ l = Jm i p c q
theorem qI.heap_ok {w w' : World} {b n : Nat} {f : Nat → Bool} (h : qI w b n f) (e : w'.heap[b]? = w.heap[b]?) : qI w' b n f := ⟨e.trans h.heap⟩
theorem qn.heap_ok {w w' : World} {b o : Nat} {xs : List Nd} (h : qn w b o xs) (e : w'.heap[b]? = w.heap[b]?) : qn w' b o xs := by
 have zb : b < w'.heap.size := by
  have h1 := Array.getElem?_eq_getElem h.lt
  rw [← e] at h1
  exact (Array.getElem?_eq_some_iff.1 h1).1
 refine ⟨zb, fun i x hx j v hv => ?_⟩
 rw [show w'.cell? ⟨b, o + i * 10 + j, none⟩ = w.cell? ⟨b, o + i * 10 + j, none⟩ by simp only [World.cell?, e]]
 exact h.cell i x hx j v hv
structure Fx (v : kU) (s : List UInt8) (xs : List Nd) (B : Nat) (P1 : Lit → Prop) : Prop where
 len : xs.length = v.n
 n1 : 1 ≤ v.n
 n2 : v.n ≤ 120
 sl : s.length ≤ 100000
 sub : ∀ i, i < v.n → ∃ t, zT (fun i => xs[i]?) t i
 fits : ∀ (i : Nat) (x : Nd), xs[i]? = some x → x.Fits
 ok : ∀ (i : Nat) (t : T), i < v.n → zT (fun i => xs[i]?) t i → Wy t ∧ vt s.length (qd s t) ∧ ∀ g, (qd s t).asked g = true → 1 ≤ g
 P1 : ∀ (i : Nat) (t : T) (had : Cp), i < v.n → zT (fun i => xs[i]?) t i → qo s.length had → XP (qd s t).asked ≠ true → P1 (pkey (partsOf (qd s t).asked had))
 B1 : 255 ≤ B
 B2 : s.length ≤ B
 B3 : B ≤ 1000000
section
variable (X : Nat) (v : kU) (s : List UInt8) (xs : List Nd) (B : Nat) (c1 : Lit → Nat) (n1 : Nat) (P1 : Lit → Prop) (c2 : Lit → Nat) (n2 : Nat)
structure Iv (E : Nat → Prop) (es : List Lit) (w : World) : Prop where
 tr : km w X v s
 nodes : qn w v.lb v.lo xs
 roles : ∃ F, vg w v.rb (v.n * 3) F ∧ ∀ (j : Nat) (t : T), j < v.n → zT (fun i => xs[i]?) t j → F (j * 3) = gw (qd s t).asked ∧ F (j * 3 + 1) = gw (qd s t).always ∧ F (j * 3 + 2) = gw (qd s t).ever
 tab : TabAt 0 Lib.deBruijn64tab w
 nd : es.Nodup
 ky : ∀ l ∈ es, WideAt.IsKeyLit l
 nums : jq 168 w v.bn c1 n1 P1 (numL es)
 reach : ∃ L, jq 137 w v.br c2 n2 (okS v.n s.length B n1) L ∧ ∀ (n p c q : Nat) (u : Value), (n < v.n ∧ p ≤ s.length ∧ c ≤ B ∧ q ≤ n1) → L (Jm n p c q) = some u → ∃ (b : Nat) (t : T) (had : Cp), u = PV (s.length / 64 + 1) b ∧ ¬ E b ∧ b ≠ 0 ∧ zT (fun i => xs[i]?) t n ∧ qo s.length had ∧ nOf es (qd s t).asked had = some q ∧ qI w b (s.length / 64 + 1) (fun j => (qd s t).ends p c had j)
 left : ∃ L, jq 137 w v.bl c2 n2 (okS v.n s.length B n1) L ∧ ∀ (n p j q : Nat) (u : Value), (n < v.n ∧ p ≤ s.length ∧ j ≤ B ∧ q ≤ n1) → L (Jm n p j q) = some u → ∃ (t : T) (had : Cp), zT (fun i => xs[i]?) t n ∧ qo s.length had ∧ nOf es (qd s t).asked had = some q ∧ u = qk ((qd s t).walk p j (qP had (qd s t).asked))
 out : ¬ E X ∧ ¬ E v.lb ∧ ¬ E v.rb ∧ ¬ E v.bn ∧ ¬ E v.br ∧ ¬ E v.bl ∧ ¬ E 0
 ne : v.bn ≠ v.br ∧ v.bn ≠ v.bl ∧ v.br ≠ v.bl
end
section
variable {X : Nat} {v : kU} {s : List UInt8} {xs : List Nd} {B : Nat} {c1 : Lit → Nat} {n1 : Nat} {P1 : Lit → Prop} {c2 : Lit → Nat} {n2 : Nat} {E E' : Nat → Prop} {es : List Lit} {w w' : World}
theorem Iv.mono (h : Iv X v s xs B c1 n1 P1 c2 n2 E es w) (hE : ∀ b, E' b → E b) : Iv X v s xs B c1 n1 P1 c2 n2 E' es w := by
 obtain ⟨L, h1, h2⟩ := h.reach
 refine ⟨h.tr, h.nodes, h.roles, h.tab, h.nd, h.ky, h.nums, ⟨L, h1, fun n p c q u hr hu => ?_⟩, h.left, ?_, h.ne⟩
 ·obtain ⟨b, t, had, a1, a2, a3⟩ := h2 n p c q u hr hu
  exact ⟨b, t, had, a1, fun e => a2 (hE b e), a3⟩
 ·obtain ⟨o1, o2, o3, o4, o5, o6, o7⟩ := h.out
  exact ⟨fun e => o1 (hE _ e), fun e => o2 (hE _ e), fun e => o3 (hE _ e), fun e => o4 (hE _ e), fun e => o5 (hE _ e), fun e => o6 (hE _ e), fun e => o7 (hE _ e)⟩
theorem Iv.lts (h : Iv X v s xs B c1 n1 P1 c2 n2 E es w) : X < w.heap.size ∧ v.lb < w.heap.size ∧ v.rb < w.heap.size ∧ v.bn < w.heap.size ∧ v.br < w.heap.size ∧ v.bl < w.heap.size ∧ 0 < w.heap.size := by
 obtain ⟨F, hF, _⟩ := h.roles
 obtain ⟨L, h1, _⟩ := h.reach
 obtain ⟨L', h2, _⟩ := h.left
 have := h.tr.lt
 exact ⟨h.tr.lt, h.nodes.lt, hF.lt, h.nums.blt, h1.blt, h2.blt, by omega⟩
theorem Iv.fresh (h : Iv X v s xs B c1 n1 P1 c2 n2 E es w) : Iv X v s xs B c1 n1 P1 c2 n2 (fun b => E b ∨ w.heap.size ≤ b) es w := by
 obtain ⟨l1, l2, l3, l4, l5, l6, l7⟩ := h.lts
 obtain ⟨o1, o2, o3, o4, o5, o6, o7⟩ := h.out
 obtain ⟨L, h1, h2⟩ := h.reach
 refine ⟨h.tr, h.nodes, h.roles, h.tab, h.nd, h.ky, h.nums, ⟨L, h1, fun n p c q u hr hu => ?_⟩, h.left, ⟨fun e => e.elim o1 (fun e => by omega), fun e => e.elim o2 (fun e => by omega), fun e => e.elim o3 (fun e => by omega), fun e => e.elim o4 (fun e => by omega), fun e => e.elim o5 (fun e => by omega), fun e => e.elim o6 (fun e => by omega), fun e => e.elim o7 (fun e => by omega)⟩, h.ne⟩
 obtain ⟨b, t, had, a1, a2, a3, a4, a5, a6, a7⟩ := h2 n p c q u hr hu
 exact ⟨b, t, had, a1, fun e => e.elim a2 (fun e => by have := a7.lt; omega), a3, a4, a5, a6, a7⟩
theorem Iv.keeps (h : Iv X v s xs B c1 n1 P1 c2 n2 E es w) (k : qb E w w') : Iv X v s xs B c1 n1 P1 c2 n2 E es w' := by
 obtain ⟨l1, l2, l3, l4, l5, l6, l7⟩ := h.lts
 obtain ⟨o1, o2, o3, o4, o5, o6, o7⟩ := h.out
 obtain ⟨F, hF, Z3⟩ := h.roles
 obtain ⟨L, h1, h2⟩ := h.reach
 obtain ⟨L', h3, h4⟩ := h.left
 refine ⟨⟨(k.block _ l1 o1).trans h.tr.heap⟩, h.nodes.heap_ok (k.block _ l2 o2), ⟨F, ⟨(k.block _ l3 o3).trans hF.heap⟩, Z3⟩, fun j hj => ?_, h.nd, h.ky, h.nums.of_heap (k.block _ l4 o4), ⟨L, h1.of_heap (k.block _ l5 o5), fun n p c q u hr hu => ?_⟩, ⟨L', h3.of_heap (k.block _ l6 o6), h4⟩, h.out, h.ne⟩
 ·have e := k.block _ l7 o7
  have := h.tab j hj
  rw [← this]
  simp only [World.cell?, e]
 ·obtain ⟨b, t, had, a1, a2, a3, a4, a5, a6, a7⟩ := h2 n p c q u hr hu
  exact ⟨b, t, had, a1, a2, a3, a4, a5, a6, a7.heap_ok (k.block _ a7.lt a2)⟩
theorem Iv.role (h : Iv X v s xs B c1 n1 P1 c2 n2 E es w) {j : Nat} {t : T} (hj : j < v.n) (ht : zT (fun i => xs[i]?) t j) : Xm w v.rb j (qd s t) := by
 obtain ⟨F, hF, Z3⟩ := h.roles
 obtain ⟨f0, f1, f2⟩ := Z3 j t hj ht
 exact hF.role (by omega) f0 f1 f2
end
section
variable {X : Nat} {v : kU} {s : List UInt8} {xs : List Nd} {B : Nat} {c1 : Lit → Nat} {n1 : Nat} {P1 : Lit → Prop} {c2 : Lit → Nat} {n2 : Nat} {E E' : Nat → Prop} {es : List Lit} {w w' : World}
theorem Iv.apart (h : Iv X v s xs B c1 n1 P1 c2 n2 E es w) (fx : Fx v s xs B P1) {k : TypeId} {b N : Nat} {code : Lit → Nat} {ok : Lit → Prop} {L : Lit → Option Value} (m : jq k w b code N ok L) :
  X ≠ b ∧ v.lb ≠ b ∧ v.rb ≠ b ∧ 0 ≠ b ∧ (∀ c n f, qI w c (n + 1) f → c ≠ b) := by
 have hl := fx.len
 have h1 := fx.n1
 refine ⟨fun e => ?_, fun e => ?_, fun e => ?_, fun e => ?_, fun c n f hf e => ?_⟩
 ·subst e
  have := h.tr.c0
  rw [m.noCell] at this; cases this
 ·have := h.nodes.cell 0 (xs[0]'(by omega)) (List.getElem?_eq_getElem (by omega)) 0 _ rfl
  rw [e, m.noCell] at this; cases this
 ·obtain ⟨t, ht⟩ := fx.sub 0 (by omega)
  have := (h.role (j := 0) (by omega) ht).c0
  rw [e, m.noCell] at this; cases this
 ·have := h.tab 0 (by decide)
  rw [e, m.noCell] at this; cases this
 ·subst e
  have := hf.cell 0 (by omega)
  rw [m.noCell] at this; cases this
theorem Iv.upNums (h : Iv X v s xs B c1 n1 P1 c2 n2 E es w) (fx : Fx v s xs B P1) {fs : List Lit} (hk : qb (fun b => b = v.bn) w w') (hm : jq 168 w' v.bn c1 n1 P1 (numL fs)) (hp : es <+: fs) (Qp : fs.Nodup) (hky : ∀ l ∈ fs, WideAt.IsKeyLit l) : Iv X v s xs B c1 n1 P1 c2 n2 E fs w' := by
 obtain ⟨l1, l2, l3, l4, l5, l6, l7⟩ := h.lts
 obtain ⟨a1, a2, a3, a4, a5⟩ := h.apart fx h.nums
 obtain ⟨F, hF, Z3⟩ := h.roles
 obtain ⟨L, h1, h2⟩ := h.reach
 obtain ⟨L', h3, h4⟩ := h.left
 obtain ⟨n1, n2, n3⟩ := h.ne
 refine ⟨⟨(hk.block _ l1 a1).trans h.tr.heap⟩, h.nodes.heap_ok (hk.block _ l2 a2), ⟨F, ⟨(hk.block _ l3 a3).trans hF.heap⟩, Z3⟩, fun j hj => ?_, Qp, hky, hm, ⟨L, h1.of_heap (hk.block _ l5 (Ne.symm n1)), fun n p c q u hr hu => ?_⟩, ⟨L', h3.of_heap (hk.block _ l6 (Ne.symm n2)), fun n p j q u hr hu => ?_⟩, h.out, h.ne⟩
 ·have e := hk.block _ l7 a4
  have := h.tab j hj
  rw [← this]
  simp only [World.cell?, e]
 ·obtain ⟨b, t, had, b1, b2, b3, b4, b5, b6, b7⟩ := h2 n p c q u hr hu
  exact ⟨b, t, had, b1, b2, b3, b4, b5, Jn hp b6, b7.heap_ok (hk.block _ b7.lt (a5 _ _ _ b7))⟩
 ·obtain ⟨t, had, b1, b2, b3, b4⟩ := h4 n p j q u hr hu
  exact ⟨t, had, b1, b2, Jn hp b3, b4⟩
theorem zH {a : Nat} (h : a ≤ 9223372036854775807) : (Lit.int .i64 (a : Int)).wf = true := ZG (by omega)
theorem Iv.upReach (h : Iv X v s xs B c1 n1 P1 c2 n2 E es w) (fx : Fx v s xs B P1) {n p c q b : Nat} {t : T} {had : Cp} {L L' : Lit → Option Value}
  (h2 : ∀ (n p c q : Nat) (u : Value), (n < v.n ∧ p ≤ s.length ∧ c ≤ B ∧ q ≤ n1) → L (Jm n p c q) = some u → ∃ (b : Nat) (t : T) (had : Cp), u = PV (s.length / 64 + 1) b ∧ ¬ E b ∧ b ≠ 0 ∧ zT (fun i => xs[i]?) t n ∧ qo s.length had ∧ nOf es (qd s t).asked had = some q ∧ qI w b (s.length / 64 + 1) (fun j => (qd s t).ends p c had j))
  (hk : qb (fun b => b = v.br) w w') (hm : jq 137 w' v.br c2 n2 (okS v.n s.length B n1) L') (hL' : ∀ l, l ≠ Jm n p c q → L' l = L l) (hLn : ∀ u, L' (Jm n p c q) = some u → u = PV (s.length / 64 + 1) b)
  (hr : n < v.n ∧ p ≤ s.length ∧ c ≤ B ∧ q ≤ n1) (hb : ¬ E b) (h0 : b ≠ 0) (ht : zT (fun i => xs[i]?) t n) (hc : qo s.length had) (hn : nOf es (qd s t).asked had = some q) (qv : qI w' b (s.length / 64 + 1) (fun j => (qd s t).ends p c had j)) : Iv X v s xs B c1 n1 P1 c2 n2 E es w' := by
 obtain ⟨l1, l2, l3, l4, l5, l6, l7⟩ := h.lts
 obtain ⟨L0, h1, _⟩ := h.reach
 obtain ⟨a1, a2, a3, a4, a5⟩ := h.apart fx h1
 obtain ⟨F, hF, Z3⟩ := h.roles
 obtain ⟨L2, h3, h4⟩ := h.left
 obtain ⟨e1, e2, e3⟩ := h.ne
 have hmx := h.nums.max
 have emx : maxLen = 9223372036854775807 := by decide
 have qQ := fx.B3; have XJ := fx.n2; have jp := fx.sl
 refine ⟨⟨(hk.block _ l1 a1).trans h.tr.heap⟩, h.nodes.heap_ok (hk.block _ l2 a2), ⟨F, ⟨(hk.block _ l3 a3).trans hF.heap⟩, Z3⟩, fun j hj => ?_, h.nd, h.ky, h.nums.of_heap (hk.block _ l4 e1), ⟨L', hm, fun n' p' c' q' u We hu => ?_⟩, ⟨L2, h3.of_heap (hk.block _ l6 (Ne.symm e3)), h4⟩, h.out, h.ne⟩
 ·have e := hk.block _ l7 a4
  have := h.tab j hj
  rw [← this]
  simp only [World.cell?, e]
 ·by_cases e : Jm n' p' c' q' = Jm n p c q
  ·obtain ⟨i1, i2, i3, i4⟩ := Yl (zH (by omega)) (zH (by omega)) (zH (by omega)) (zH (by omega)) (zH (by omega)) (zH (by omega)) (zH (by omega)) (zH (by omega)) e
   obtain rfl : n' = n := by omega
   obtain rfl : p' = p := by omega
   obtain rfl : c' = c := by omega
   obtain rfl : q' = q := by omega
   exact ⟨b, t, had, hLn u hu, hb, h0, ht, hc, hn, qv⟩
  ·rw [hL' _ e] at hu
   obtain ⟨b', t', qw, b1, b2, b3, b4, b5, b6, b7⟩ := h2 n' p' c' q' u We hu
   exact ⟨b', t', qw, b1, b2, b3, b4, b5, b6, b7.heap_ok (hk.block _ b7.lt (a5 _ _ _ b7))⟩
end
structure zG (w : World) (b : Nat) (cs : Array Value) (t : TypeId) : Prop where
 heap : w.heap[b]? = some (.cells cs t (0, 0))
theorem zG.cell {w : World} {b : Nat} {cs : Array Value} {t : TypeId} (h : zG w b cs t) (j : Nat) : w.cell? ⟨b, j, none⟩ = cs[j]? := by simp [World.cell?, h.heap]
theorem j9 {W : World} {b : Nat} {t : TypeId} {x0 : Int} {x1 x2 x3 x4 : Nat} {x5 x6 x7 x8 x9 : Int} (H : zG W b (Nd.cells ⟨x0, x1, x2, x3, x4, x5, x6, x7, x8, x9⟩) t) : W.cell? ⟨b, 0, none⟩ = some (.int .i64 x0) ∧ W.cell? ⟨b, 1, none⟩ = some (.int .u64 x1) ∧ W.cell? ⟨b, 2, none⟩ = some (.int .u64 x2) ∧ W.cell? ⟨b, 3, none⟩ = some (.int .u64 x3) ∧ W.cell? ⟨b, 4, none⟩ = some (.int .u64 x4) ∧ W.cell? ⟨b, 5, none⟩ = some (.int .i64 x5) ∧ W.cell? ⟨b, 6, none⟩ = some (.int .i64 x6) ∧ W.cell? ⟨b, 7, none⟩ = some (.int .i64 x7) ∧ W.cell? ⟨b, 8, none⟩ = some (.int .i64 x8) ∧ W.cell? ⟨b, 9, none⟩ = some (.int .i64 x9) := ⟨H.cell 0, H.cell 1, H.cell 2, H.cell 3, H.cell 4, H.cell 5, H.cell 6, H.cell 7, H.cell 8, H.cell 9⟩
theorem zG.lt {w : World} {b : Nat} {cs : Array Value} {t : TypeId} (h : zG w b cs t) : b < w.heap.size := (Array.getElem?_eq_some_iff.1 h.heap).1
theorem zG.fz {w : World} {b : Nat} {cs : Array Value} {t : TypeId} (h : zG w b cs t) (j : Nat) : w.frozen? ⟨b, j, none⟩ = false := by simp [World.frozen?, h.heap]
theorem zG.keeps {S : Nat → Prop} {w w' : World} {b : Nat} {cs : Array Value} {t : TypeId} (h : zG w b cs t) (k : qb S w w') (hs : ¬ S b) : zG w' b cs t := ⟨(k.block b h.lt hs).trans h.heap⟩
theorem zG.new (w : World) (cs : Array Value) (t : TypeId) : zG (w.alloc (.cells cs t)) w.heap.size cs t := ⟨by show (w.heap.push _)[w.heap.size]? = _; simp⟩
theorem zG.below {w w' : World} {b B : Nat} {cs : Array Value} {t : TypeId} (h : zG w b cs t) (hB : Below B w w') (hb : b < B) : zG w' b cs t := ⟨(hB.block b hb).trans h.heap⟩
theorem zG.alloc {w : World} {b : Nat} {cs : Array Value} {t : TypeId} (h : zG w b cs t) (o : Obj) : zG (w.alloc o) b cs t := h.below (B := w.heap.size) ((Below.refl _ w).alloc (Nat.le_refl _) o) h.lt
theorem zG.other {w : World} {b : Nat} {cs : Array Value} {t : TypeId} (h : zG w b cs t) {p : Addr} (hp : b ≠ p.block) (u : Value) : zG (w.setCell p u) b cs t := ⟨(Below.heap_setCell w p u b hp).trans h.heap⟩
theorem zG.drew {w : World} {b : Nat} {cs : Array Value} {t : TypeId} (h : zG w b cs t) : zG w.drew b cs t := ⟨h.heap⟩
theorem Zd (w : World) (b q : Nat) (u : Value) : qb (fun i => i = b) w (w.setCell ⟨b, q, none⟩ u).drew := ((qb.refl (fun i => i = b) w).setCell (p := ⟨b, q, none⟩) rfl u).drew
def Mt (v : kU) (b : Nat) : Prop := b = v.bn ∨ b = v.br ∨ b = v.bl
end Go.Proofs.YtjgegohidhdbpaaGreatDoor
