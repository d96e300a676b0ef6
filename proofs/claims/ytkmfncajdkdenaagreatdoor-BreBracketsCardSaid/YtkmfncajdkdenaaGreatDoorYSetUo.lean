/- The reference's Bracket: of no program: its loop over the parts; what holds at the loop's head. -/
import Derived.Test.YtkmfncajdkdenaaGreatDoorYBuA
import Derived.Test.YtkmfncajdkdenaaGreatDoorYRxTr
import Derived.Test.YtkmfncajdkdenaaGreatDoorYBtBc
set_option linter.unusedVariables false
set_option linter.unusedSimpArgs false
set_option maxRecDepth 100000
set_option maxHeartbeats 40000000
namespace Go.Proofs.YtkmfncajdkdenaaGreatDoor
open Go.RowKit Go.Lib
theorem rba_le {s : List UInt8} {i : Nat} {f e : Bool} (h : (rba s i f e).2.1 ≠ 0) : i + (rba s i f e).2.1 ≤ s.length := by
 unfold rba at h ⊢
 cases h0 : s[i]? with
 | none => rw [h0] at h; exact absurd rfl h
 | some c =>
  rw [h0] at h
  have hi := (List.getElem?_eq_some_iff.1 h0).1
  simp only at h ⊢
  split
  ·rename_i q
   rw [if_pos q] at h
   split
   ·rename_i q2
    have := (List.getElem?_eq_some_iff.1 q2.2.2).1
    show i + 5 ≤ s.length
    omega
   ·rename_i q2
    rw [if_neg q2] at h
    exact absurd rfl h
  ·rename_i q
   rw [if_neg q] at h
   split
   ·rename_i q2
    have q3 : s[i + 1]? = some 110 := by rw [← nx_some (by decide)]; exact q2.2
    have := (List.getElem?_eq_some_iff.1 q3).1
    show i + 2 ≤ s.length
    omega
   ·rename_i q2
    rw [if_neg q2] at h
    split
    ·rename_i q3; rw [if_pos q3] at h; exact absurd rfl h
    ·rename_i q3
     rw [if_neg q3] at h
     split
     ·rename_i q4; rw [if_pos q4] at h; exact absurd rfl h
     ·show i + 1 ≤ s.length; omega
theorem partR_le {s : List UInt8} {i : Nat} {first : Bool} {p : (Nat → Bool) × Nat} (h : partR s i first = some p) : i < p.2 ∧ p.2 ≤ s.length := by
 unfold partR at h
 split at h
 ·rename_i q
  rcases ah_le q with q | q
  ·have := clasP_le h q
   exact ⟨by omega, this.2⟩
  ·cases q
 ·simp only at h
  split at h
  ·cases h
  rename_i hn
  have h1 := rba_le hn
  split at h
  ·split at h
   ·cases h
   ·rename_i hx
    have hxn : (rba s (i + (rba s i first false).2.1 + 1) false true).2.1 ≠ 0 := fun e => hx (.inl e)
    have h2 := rba_le hxn
    cases h
    exact ⟨by show i < i + _ + 1 + _; omega, h2⟩
  ·cases h
   exact ⟨by show i < i + _; omega, h1⟩
theorem occ_ah (s : List UInt8) (i j : Nat) (p : List UInt8) : Lib.occAt (s.drop i) p j = ah s (i + j) p := by
 unfold Lib.occAt ah
 rw [List.drop_drop]
theorem clasP_some {s : List UInt8} {i k : Nat} (hik : i ≤ k) (hk : ah s k [58, 93] = true) (hn : ∀ j, i ≤ j → j < k → ah s j [58, 93] = false) :
  clasP s i = if (clsV ((s.drop i).take (k - i))).2 then some ((clsV ((s.drop i).take (k - i))).1, k + 2) else none := by
 have hr := ah_le hk
 have hkl : k + 2 ≤ s.length := by
  rcases hr with h | h
  ·exact h
  ·cases h
 have hx : Lib.index (s.drop i) [58, 93] = ((k - i : Nat) : Int) := by
  refine Lib.index_first (by rw [List.length_drop]; omega) ?_ (fun j hj => ?_)
  ·rw [occ_ah, show i + (k - i) = k by omega]; exact hk
  ·rw [occ_ah]; exact hn _ (by omega) (by omega)
 have hc : Lib.cut (s.drop i) [58, 93] = ((s.drop i).take (k - i), (s.drop i).drop (k - i + 2), true) := by
  unfold Lib.cut
  rw [if_pos (by rw [hx]; omega), hx]
  rfl
 unfold clasP
 rw [hc]
 simp only [Bool.not_true, Bool.or_false]
 have hl : ((s.drop i).take (k - i)).length = k - i := by rw [List.length_take, List.length_drop]; omega
 rw [hl, show i + (k - i + 2) = k + 2 by omega]
 cases (clsV ((s.drop i).take (k - i))).2 <;> rfl
theorem clasP_none {s : List UInt8} {i : Nat} (hn : ∀ j, i ≤ j → j + 1 < s.length → ah s j [58, 93] = false) : clasP s i = none := by
 have hx : Lib.index (s.drop i) [58, 93] < 0 := by
  rcases Lib.index_spec (s.drop i) [58, 93] with ⟨h, _⟩ | ⟨j, h1, h2, h3, h4⟩
  ·omega
  ·rw [occ_ah] at h3
   rcases ah_le h3 with q | q
   ·simp only [List.length_cons, List.length_nil] at q
    rw [hn (i + j) (by omega) (by omega)] at h3
    cases h3
   ·cases q
 have hc : (Lib.cut (s.drop i) [58, 93]).2.2 = false := by
  unfold Lib.cut
  rw [if_neg (by omega)]
 unfold clasP
 simp only
 rw [hc]
 simp
structure BkAt (w : World) (s : List UInt8) (TOT : Option ((Nat → Bool) × Nat)) (i : Nat) (F : Nat → Bool) (first : Bool) (wr : World) : Prop where
 il : i ≤ s.length
 eq : ∃ fu, s.length < fu + i ∧ restF s fu i F first = TOT
 r0 : Row wr w.heap.size (fun _ => false)
 r1 : Row wr (w.heap.size + 1) (fun _ => false)
 r2 : Row wr (w.heap.size + 1 + 1) F
 bel : Below w.heap.size w wr
section
variable {w : World} {s : List UInt8} {TOT : Option ((Nat → Bool) × Nat)} {i : Nat} {F : Nat → Bool} {first : Bool} {wr : World}
theorem BkAt.below {w' : World} (h : BkAt w s TOT i F first wr) (hB : Below wr.heap.size wr w') : BkAt w s TOT i F first w' :=
 ⟨h.il, h.eq, h.r0.below hB h.r0.lt, h.r1.below hB h.r1.lt, h.r2.below hB h.r2.lt, h.bel.trans (hB.mono h.bel.size)⟩
theorem BkAt.fin (h : BkAt w s TOT i F first wr) (hd : (ah s i [93] && !first) = true) : TOT = some (F, i + 1) := by
 obtain ⟨fu, h1, h2⟩ := h.eq
 have := h.il
 cases fu with
 | zero => omega
 | succ f => rw [restF, if_pos hd] at h2; exact h2.symm
theorem BkAt.no (h : BkAt w s TOT i F first wr) (hd : (ah s i [93] && !first) = false) (hp : partR s i first = none) : TOT = none := by
 obtain ⟨fu, h1, h2⟩ := h.eq
 have := h.il
 cases fu with
 | zero => omega
 | succ f => rw [restF, if_neg (by rw [hd]; decide), hp] at h2; exact h2.symm
theorem BkAt.step (h : BkAt w s TOT i F first wr) (hd : (ah s i [93] && !first) = false) {G : Nat → Bool} {k : Nat} (hp : partR s i first = some (G, k)) : k ≤ s.length ∧ i < k ∧ ∃ fu, s.length < fu + k ∧ restF s fu k (fun j => F j || G j) false = TOT := by
 obtain ⟨fu, h1, h2⟩ := h.eq
 have := h.il
 have hl := partR_le hp
 cases fu with
 | zero => omega
 | succ f => rw [restF, if_neg (by rw [hd]; decide), hp] at h2; exact ⟨hl.2, hl.1, f, by have := hl.1; simp only at this; omega, h2⟩
theorem BkAt.drew (h : BkAt w s TOT i F first wr) : BkAt w s TOT i F first wr.drew := h.below (Below.refl _ _).drew
theorem BkAt.put (h : BkAt w s TOT i F first wr) {k : Nat} {H : Nat → Bool} (hk : k ≤ s.length) (he : ∃ fu, s.length < fu + k ∧ restF s fu k H false = TOT) : BkAt w s TOT k H false (wr.setRow (w.heap.size + 1 + 1) (barr H)) :=
 ⟨hk, he, h.r0.setRow_other (by omega) _, h.r1.setRow_other (by omega) _, h.r2.put H, Below.setRow h.bel (by omega) _⟩
theorem BkAt.fresh (h : BkAt w s TOT i F first wr) (G : Nat → Bool) : BkAt w s TOT i F first ((wr.alloc (.cells (barr fun _ => false) 30)).setRow wr.heap.size (barr G)) :=
 ⟨h.il, h.eq, (h.r0.alloc _).setRow_other (by have := h.r0.lt; omega) _, (h.r1.alloc _).setRow_other (by have := h.r1.lt; omega) _, (h.r2.alloc _).setRow_other (by have := h.r2.lt; omega) _, Below.setRow (h.bel.alloc h.bel.size _) h.bel.size _⟩
end
theorem none_yes {F : Nat → Bool} (h : cnt F 256 = 0) : noneIn F = true := by
 cases hn : noneIn F with
 | true => rfl
 | false =>
  exfalso
  have hall : ∀ i, i < 256 → F i = (fun _ => false : Nat → Bool) i := fun i hi => cnt_zero h i hi
  have hz : noneIn (fun _ => false) = true := by decide +kernel
  unfold noneIn at hn hz
  rw [wd_congr (k := 0) (by omega) hall, wd_congr (k := 1) (by omega) hall, wd_congr (k := 2) (by omega) hall, wd_congr (k := 3) (by omega) hall, hz] at hn
  cases hn
def brkEnd (nt : Bool) : Option ((Nat → Bool) × Nat) → Option ((Nat → Bool) × Nat)
 | none => none
 | some (F, m) => if noneIn (if nt then (fun j => !F j) else F) then none else some ((if nt then (fun j => !F j) else F), m)
theorem brkR_end {s : List UInt8} (h : ah s 0 [91] = true) : brkR s = brkEnd (ah s 1 [94]) (restF s (s.length + 2) (sk s 1 [94]) (fun _ => false) true) := by
 unfold brkR brkEnd
 rw [h]
 rfl
def BkOut (R : Option ((Nat → Bool) × Nat)) (e : Ending) : Prop := match R with
 | some (F, m) => e = .returned (.tuple #[.agg (barr F), .int .i64 (m : Int), .int .i64 0])
 | none => e = .returned (.tuple #[.agg (barr fun _ => false), .int .i64 0, .int .i64 42])
theorem BkOut.no {R : Option ((Nat → Bool) × Nat)} (h : R = none) : BkOut R (.returned (.tuple #[.agg (barr fun _ => false), .int .i64 0, .int .i64 42])) := by rw [h]; rfl
theorem BkOut.yes {R : Option ((Nat → Bool) × Nat)} {F : Nat → Bool} {m : Nat} (h : R = some (F, m)) : BkOut R (.returned (.tuple #[.agg (barr F), .int .i64 (m : Int), .int .i64 0])) := by rw [h]; rfl
end Go.Proofs.YtkmfncajdkdenaaGreatDoor
namespace Go.Proofs.YtkmfncajdkdenaaGreatDoor
open Go.RowKit
theorem rnot_c (f : Nat → Bool) (w : World) :
  Calls Tryz.prog 26 #[bv f] w fun e w' => e = .returned (bv fun i => !f i) ∧ Below w.heap.size w w' := by
 obtain ⟨hz, hsz⟩ := zero_of_info (P := Tryz.prog) info27
 unfold bv
 go_enter Tryz.func26, Tryz.ntmps26
 go_wp2
 go_loopw [3] (fun i wr => ∃ k : Nat, k ≤ 256 ∧ i = .int .i64 k ∧ Row wr w.heap.size (fun j => if j < k then !f j else f j) ∧ Row wr (w.heap.size + 1) (fun _ => false) ∧ Below w.heap.size w wr) (fun i _ => 256 - (RowKit.intOf i).toNat)
 case atStart =>
  refine ⟨0, by omega, rfl, ?_, ?_, ((Below.refl _ w).alloc (Nat.le_refl _) _).alloc (by simp) _⟩
  ·exact ((Row.new w f).alloc _).congr fun i _ => by simp
  ·have := Row.new (w.alloc (.cells (barr f) 30)) (fun _ => false)
   rwa [World.size_alloc] at this
 case round =>
  obtain ⟨k, hk, rfl, h0, h1, hB⟩ := hrel
  by_cases hlt : k < 256
  ·have hc := h0.cell k hlt
   rw [if_neg (by omega)] at hc
   have hf := h0.fz k
   go_wp2
   go_roundw
   case rel =>
    refine ⟨k + 1, by omega, by simp, (h0.set k _).congr fun i _ => ?_, h1.other (by simp) _, hB.setCell (p := ⟨w.heap.size, k, none⟩) (Nat.le_refl _) _⟩
    by_cases e : i = k
    ·subst e; simp
    ·have e2 : (i < k + 1) = (i < k) := propext (by omega)
     simp [e, e2]
   case measure => simp [RowKit.intOf]; omega
  ·obtain rfl : k = 256 := by omega
   have h0 := h0.congr (g := fun i => !f i) (fun i hi => by simp [hi])
   have hst := h1.storeCells
   go_wp2
   refine wp_load_row h0 rfl rfl ?_
   go_wp2
   have q := h1.put (fun i => !f i)
   have ql := q.load
   refine bodyPost_ret (v := .agg (barr fun i => !f i)) ?_ rfl ⟨rfl, Below.setRow hB (by omega) _⟩
   simp [results, Tryz.results26, asAddr, Result.andThen, ql]
end Go.Proofs.YtkmfncajdkdenaaGreatDoor
namespace Go.Proofs.YtkmfncajdkdenaaGreatDoor
open Go.RowKit Go.Lib
theorem ixm_c (s : List UInt8) (p : Nat) (c : UInt8) (hc : s[p]? = some c) (W : World) : (Instr.index 9 (.string ⟨s.toArray⟩) (.int .i64 (p : Int))).run Tryz.prog W = .ok (.int .u8 (c.toNat : Int)) W := by
 have hsz : (⟨s.toArray⟩ : ByteArray).size = s.length := by simp [ByteArray.size]
 obtain ⟨hk, rfl⟩ := List.getElem?_eq_some_iff.1 hc
 rw [run_index_string (P := Tryz.prog) W 9 _ .i64 p Tryz.underlying9, dif_pos ⟨by omega, by rw [hsz]; omega⟩]
 simp
 rfl
theorem ixj_c (s : List UInt8) (p j : Nat) (c : UInt8) (hc : s[p + j]? = some c) (W : World) : (Instr.index 9 (.string ⟨s.toArray⟩) (.int .i64 ((p : Int) + (j : Int)))).run Tryz.prog W = .ok (.int .u8 (c.toNat : Int)) W := by
 have := ixm_c s (p + j) c hc W
 rwa [Int.natCast_add] at this
theorem u8_ne {c d : UInt8} (h : c ≠ d) : ((c.toNat : Int) == (d.toNat : Int)) = false := by
 rw [beq_eq_false_iff_ne]
 intro e
 exact h (UInt8.toNat_inj.1 (by omega))
def rbaV (r : UInt8 × Nat × Bool) : Value := .tuple #[.int .u8 (r.1.toNat : Int), .int .i64 (r.2.1 : Int), .bool r.2.2]
theorem rbyte_c (s : List UInt8) (hs : s.length ≤ 100000) (i : Nat) (hi : i ≤ s.length + 1) (f e : Bool) (w : World) :
  Calls Tryz.prog 24 #[.string ⟨s.toArray⟩, .int .i64 (i : Int), .bool f, .bool e] w fun x w' => x = .returned (rbaV (rba s i f e)) ∧ w' = w := by
 have hsz : (⟨s.toArray⟩ : ByteArray).size = s.length := by simp [ByteArray.size]
 have hw1 : IntKind.i64.wrap ((i : Int) + 1) = (i : Int) + 1 := by simp [IntKind.wrap, IntKind.signed, IntKind.bits]; omega
 have hw2 : IntKind.i64.wrap ((i : Int) + 2) = (i : Int) + 2 := by simp [IntKind.wrap, IntKind.signed, IntKind.bits]; omega
 have hw3 : IntKind.i64.wrap ((i : Int) + 3) = (i : Int) + 3 := by simp [IntKind.wrap, IntKind.signed, IntKind.bits]; omega
 have hw4 : IntKind.i64.wrap ((i : Int) + 4) = (i : Int) + 4 := by simp [IntKind.wrap, IntKind.signed, IntKind.bits]; omega
 obtain ⟨r, hr⟩ : ∃ r, r = rba s i f e := ⟨_, rfl⟩
 rw [← hr]
 have HR := Lib.hid hr
 clear hr
 by_cases hlt : s.length ≤ i
 ·have h0 : s[i]? = none := List.getElem?_eq_none hlt
  have g0 : ((s.length : Int) ≤ i) = True := by simp; omega
  have hv : rba s i f e = (0, 0, false) := by
   exact rba_none _ _ h0
  obtain rfl : r = (0, 0, false) := HR.out.trans hv
  clear HR hv h0
  unfold rbaV
  try simp only
  try generalize UInt8.toNat c = C at *
  try generalize UInt8.toNat d = D at *
  go_enter Tryz.func24, Tryz.ntmps24
  go_wp2
  refine bodyPost_ret (v := .tuple #[.int .u8 0, .int .i64 0, .bool false]) (by simp [results, Tryz.results24, go_sem]) rfl ?_
  exact ⟨rfl, rfl⟩
 have hlt : i < s.length := by omega
 obtain ⟨c, h0⟩ : ∃ c, s[i]? = some c := ⟨_, List.getElem?_eq_getElem hlt⟩
 have x0 := fun W => ixm_c s i c h0 W
 have g0 : ((s.length : Int) ≤ i) = False := by simp; omega
 by_cases k91 : c = 91
 ·subst k91
  by_cases h1l : i + 1 < s.length
  ·have g1 : ((i : Int) + 1 < s.length) = True := by simp; omega
   obtain ⟨d, h1⟩ : ∃ d, s[i + 1]? = some d := ⟨_, List.getElem?_eq_getElem h1l⟩
   have x1 : ∀ W : World, (Instr.index 9 (.string ⟨s.toArray⟩) (.int .i64 ((i : Int) + 1))).run Tryz.prog W = .ok (.int .u8 (d.toNat : Int)) W := fun W => ixj_c s i 1 d h1 W
   have hn : nxB s i = d := by unfold nxB; rw [h1]; rfl
   by_cases e46 : d = 46
   ·subst e46
    by_cases h4l : i + 4 < s.length
    ·have g4 : ((i : Int) + 4 < s.length) = True := by simp; omega
     obtain ⟨c2, h2⟩ : ∃ d, s[i + 2]? = some d := ⟨_, List.getElem?_eq_getElem (by omega)⟩
     obtain ⟨c3, h3⟩ : ∃ d, s[i + 3]? = some d := ⟨_, List.getElem?_eq_getElem (by omega)⟩
     obtain ⟨c4, h4⟩ : ∃ d, s[i + 4]? = some d := ⟨_, List.getElem?_eq_getElem (by omega)⟩
     have x2 : ∀ W : World, (Instr.index 9 (.string ⟨s.toArray⟩) (.int .i64 ((i : Int) + 2))).run Tryz.prog W = .ok (.int .u8 (c2.toNat : Int)) W := fun W => ixj_c s i 2 c2 h2 W
     have y2 : ∀ (h : i + 2 < (⟨s.toArray⟩ : ByteArray).size), (⟨s.toArray⟩ : ByteArray)[i + 2] = c2 := fun h => (List.getElem?_eq_some_iff.1 h2).2
     have x3 : ∀ W : World, (Instr.index 9 (.string ⟨s.toArray⟩) (.int .i64 ((i : Int) + 3))).run Tryz.prog W = .ok (.int .u8 (c3.toNat : Int)) W := fun W => ixj_c s i 3 c3 h3 W
     have x4 : ∀ W : World, (Instr.index 9 (.string ⟨s.toArray⟩) (.int .i64 ((i : Int) + 4))).run Tryz.prog W = .ok (.int .u8 (c4.toNat : Int)) W := fun W => ixj_c s i 4 c4 h4 W
     by_cases e3 : c3 = 46
     ·subst e3
      by_cases e4 : c4 = 93
      ·subst e4
       have hv : rba s i f e = (c2, 5, true) := by
        unfold rba
        rw [h0]
        simp only [hn]
        rw [h2, h3, h4]
        simp
       obtain rfl : r = (c2, 5, true) := HR.out.trans hv
       clear HR hv h0 h1 h2 h3 h4 hn h4l h1l hlt
       unfold rbaV
       try simp only
       try generalize UInt8.toNat c = C at *
       try generalize UInt8.toNat d = D at *
       go_enter Tryz.func24, Tryz.ntmps24
       go_wp2
       refine bodyPost_ret (v := .tuple #[.int .u8 (c2.toNat : Int), .int .i64 5, .bool true]) (by simp [results, Tryz.results24, go_sem, y2]) rfl ?_
       exact ⟨rfl, rfl⟩
      ·have q4 : ((c4.toNat : Int) == 93) = false := u8_ne (d := 93) e4
       have hv : rba s i f e = (0, 0, false) := by
        unfold rba
        rw [h0]
        simp only [hn]
        rw [h2, h3, h4]
        simp [e4]
       obtain rfl : r = (0, 0, false) := HR.out.trans hv
       clear HR hv h0 h1 h2 h3 h4 hn h4l h1l hlt e4
       unfold rbaV
       try simp only
       try generalize UInt8.toNat c = C at *
       try generalize UInt8.toNat d = D at *
       go_enter Tryz.func24, Tryz.ntmps24
       go_wp2
       refine bodyPost_ret (v := .tuple #[.int .u8 0, .int .i64 0, .bool false]) (by simp [results, Tryz.results24, go_sem]) rfl ?_
       exact ⟨rfl, rfl⟩
     ·have q3 : ((c3.toNat : Int) == 46) = false := u8_ne (d := 46) e3
      have hv : rba s i f e = (0, 0, false) := by
       unfold rba
       rw [h0]
       simp only [hn]
       rw [h2, h3, h4]
       simp [e3]
      obtain rfl : r = (0, 0, false) := HR.out.trans hv
      clear HR hv h0 h1 h2 h3 h4 hn h4l h1l hlt e3
      unfold rbaV
      try simp only
      try generalize UInt8.toNat c = C at *
      try generalize UInt8.toNat d = D at *
      go_enter Tryz.func24, Tryz.ntmps24
      go_wp2
      refine bodyPost_ret (v := .tuple #[.int .u8 0, .int .i64 0, .bool false]) (by simp [results, Tryz.results24, go_sem]) rfl ?_
      exact ⟨rfl, rfl⟩
    ·have g4 : ((i : Int) + 4 < s.length) = False := by simp; omega
     have h4 : s[i + 4]? = none := List.getElem?_eq_none (by omega)
     have hv : rba s i f e = (0, 0, false) := by
      unfold rba
      rw [h0]
      simp only [hn]
      rw [h4]
      simp
     obtain rfl : r = (0, 0, false) := HR.out.trans hv
     clear HR hv h0 h1 h4 hn h4l h1l hlt
     unfold rbaV
     try simp only
     try generalize UInt8.toNat c = C at *
     try generalize UInt8.toNat d = D at *
     go_enter Tryz.func24, Tryz.ntmps24
     go_wp2
     refine bodyPost_ret (v := .tuple #[.int .u8 0, .int .i64 0, .bool false]) (by simp [results, Tryz.results24, go_sem]) rfl ?_
     exact ⟨rfl, rfl⟩
   by_cases e61 : d = 61
   ·subst e61
    by_cases h4l : i + 4 < s.length
    ·have g4 : ((i : Int) + 4 < s.length) = True := by simp; omega
     obtain ⟨c2, h2⟩ : ∃ d, s[i + 2]? = some d := ⟨_, List.getElem?_eq_getElem (by omega)⟩
     obtain ⟨c3, h3⟩ : ∃ d, s[i + 3]? = some d := ⟨_, List.getElem?_eq_getElem (by omega)⟩
     obtain ⟨c4, h4⟩ : ∃ d, s[i + 4]? = some d := ⟨_, List.getElem?_eq_getElem (by omega)⟩
     have x2 : ∀ W : World, (Instr.index 9 (.string ⟨s.toArray⟩) (.int .i64 ((i : Int) + 2))).run Tryz.prog W = .ok (.int .u8 (c2.toNat : Int)) W := fun W => ixj_c s i 2 c2 h2 W
     have y2 : ∀ (h : i + 2 < (⟨s.toArray⟩ : ByteArray).size), (⟨s.toArray⟩ : ByteArray)[i + 2] = c2 := fun h => (List.getElem?_eq_some_iff.1 h2).2
     have x3 : ∀ W : World, (Instr.index 9 (.string ⟨s.toArray⟩) (.int .i64 ((i : Int) + 3))).run Tryz.prog W = .ok (.int .u8 (c3.toNat : Int)) W := fun W => ixj_c s i 3 c3 h3 W
     have x4 : ∀ W : World, (Instr.index 9 (.string ⟨s.toArray⟩) (.int .i64 ((i : Int) + 4))).run Tryz.prog W = .ok (.int .u8 (c4.toNat : Int)) W := fun W => ixj_c s i 4 c4 h4 W
     by_cases e3 : c3 = 61
     ·subst e3
      by_cases e4 : c4 = 93
      ·subst e4
       have hv : rba s i f e = (c2, 5, false) := by
        unfold rba
        rw [h0]
        simp only [hn]
        rw [h2, h3, h4]
        simp
       obtain rfl : r = (c2, 5, false) := HR.out.trans hv
       clear HR hv h0 h1 h2 h3 h4 hn h4l h1l hlt
       unfold rbaV
       try simp only
       try generalize UInt8.toNat c = C at *
       try generalize UInt8.toNat d = D at *
       go_enter Tryz.func24, Tryz.ntmps24
       go_wp2
       refine bodyPost_ret (v := .tuple #[.int .u8 (c2.toNat : Int), .int .i64 5, .bool false]) (by simp [results, Tryz.results24, go_sem, y2]) rfl ?_
       exact ⟨rfl, rfl⟩
      ·have q4 : ((c4.toNat : Int) == 93) = false := u8_ne (d := 93) e4
       have hv : rba s i f e = (0, 0, false) := by
        unfold rba
        rw [h0]
        simp only [hn]
        rw [h2, h3, h4]
        simp [e4]
       obtain rfl : r = (0, 0, false) := HR.out.trans hv
       clear HR hv h0 h1 h2 h3 h4 hn h4l h1l hlt e4
       unfold rbaV
       try simp only
       try generalize UInt8.toNat c = C at *
       try generalize UInt8.toNat d = D at *
       go_enter Tryz.func24, Tryz.ntmps24
       go_wp2
       refine bodyPost_ret (v := .tuple #[.int .u8 0, .int .i64 0, .bool false]) (by simp [results, Tryz.results24, go_sem]) rfl ?_
       exact ⟨rfl, rfl⟩
     ·have q3 : ((c3.toNat : Int) == 61) = false := u8_ne (d := 61) e3
      have hv : rba s i f e = (0, 0, false) := by
       unfold rba
       rw [h0]
       simp only [hn]
       rw [h2, h3, h4]
       simp [e3]
      obtain rfl : r = (0, 0, false) := HR.out.trans hv
      clear HR hv h0 h1 h2 h3 h4 hn h4l h1l hlt e3
      unfold rbaV
      try simp only
      try generalize UInt8.toNat c = C at *
      try generalize UInt8.toNat d = D at *
      go_enter Tryz.func24, Tryz.ntmps24
      go_wp2
      refine bodyPost_ret (v := .tuple #[.int .u8 0, .int .i64 0, .bool false]) (by simp [results, Tryz.results24, go_sem]) rfl ?_
      exact ⟨rfl, rfl⟩
    ·have g4 : ((i : Int) + 4 < s.length) = False := by simp; omega
     have h4 : s[i + 4]? = none := List.getElem?_eq_none (by omega)
     have hv : rba s i f e = (0, 0, false) := by
      unfold rba
      rw [h0]
      simp only [hn]
      rw [h4]
      simp
     obtain rfl : r = (0, 0, false) := HR.out.trans hv
     clear HR hv h0 h1 h4 hn h4l h1l hlt
     unfold rbaV
     try simp only
     try generalize UInt8.toNat c = C at *
     try generalize UInt8.toNat d = D at *
     go_enter Tryz.func24, Tryz.ntmps24
     go_wp2
     refine bodyPost_ret (v := .tuple #[.int .u8 0, .int .i64 0, .bool false]) (by simp [results, Tryz.results24, go_sem]) rfl ?_
     exact ⟨rfl, rfl⟩
   by_cases e58 : d = 58
   ·subst e58
    have hv : rba s i f e = (0, 0, false) := by
     unfold rba
     rw [h0]
     simp only [hn]
     simp
    obtain rfl : r = (0, 0, false) := HR.out.trans hv
    clear HR hv h0 h1 hn h1l hlt
    unfold rbaV
    try simp only
    try generalize UInt8.toNat c = C at *
    try generalize UInt8.toNat d = D at *
    go_enter Tryz.func24, Tryz.ntmps24
    go_wp2
    refine bodyPost_ret (v := .tuple #[.int .u8 0, .int .i64 0, .bool false]) (by simp [results, Tryz.results24, go_sem]) rfl ?_
    exact ⟨rfl, rfl⟩
   have d46 : ((d.toNat : Int) == 46) = false := u8_ne (d := 46) e46
   have d61 : ((d.toNat : Int) == 61) = false := u8_ne (d := 61) e61
   have d58 : ((d.toNat : Int) == 58) = false := u8_ne (d := 58) e58
   have hv : rba s i f e = (91, 1, true) := by
    unfold rba
    rw [h0]
    simp only [hn]
    simp [e46, e61, e58]
   obtain rfl : r = (91, 1, true) := HR.out.trans hv
   clear HR hv h0 h1 hn h1l hlt e46 e61 e58
   unfold rbaV
   try simp only
   try generalize UInt8.toNat c = C at *
   try generalize UInt8.toNat d = D at *
   go_enter Tryz.func24, Tryz.ntmps24
   go_wp2
   refine bodyPost_ret (v := .tuple #[.int .u8 91, .int .i64 1, .bool true]) (by simp [results, Tryz.results24, go_sem]) rfl ?_
   exact ⟨rfl, rfl⟩
  ·have g1 : ((i : Int) + 1 < s.length) = False := by simp; omega
   have h1 : s[i + 1]? = none := List.getElem?_eq_none (by omega)
   have hn : nxB s i = 0 := by unfold nxB; rw [h1]; rfl
   have hv : rba s i f e = (91, 1, true) := by
    unfold rba
    rw [h0]
    simp only [hn]
    simp
   obtain rfl : r = (91, 1, true) := HR.out.trans hv
   clear HR hv h0 h1 hn h1l hlt
   unfold rbaV
   try simp only
   try generalize UInt8.toNat c = C at *
   try generalize UInt8.toNat d = D at *
   go_enter Tryz.func24, Tryz.ntmps24
   go_wp2
   refine bodyPost_ret (v := .tuple #[.int .u8 91, .int .i64 1, .bool true]) (by simp [results, Tryz.results24, go_sem]) rfl ?_
   exact ⟨rfl, rfl⟩
 by_cases k92 : c = 92
 ·subst k92
  by_cases h1l : i + 1 < s.length
  ·have g1 : ((i : Int) + 1 < s.length) = True := by simp; omega
   obtain ⟨d, h1⟩ : ∃ d, s[i + 1]? = some d := ⟨_, List.getElem?_eq_getElem h1l⟩
   have x1 : ∀ W : World, (Instr.index 9 (.string ⟨s.toArray⟩) (.int .i64 ((i : Int) + 1))).run Tryz.prog W = .ok (.int .u8 (d.toNat : Int)) W := fun W => ixj_c s i 1 d h1 W
   have hn : nxB s i = d := by unfold nxB; rw [h1]; rfl
   by_cases e110 : d = 110
   ·subst e110
    have hv : rba s i f e = (10, 2, true) := by
     unfold rba
     rw [h0]
     simp only [hn]
     simp
    obtain rfl : r = (10, 2, true) := HR.out.trans hv
    clear HR hv h0 h1 hn h1l hlt
    unfold rbaV
    try simp only
    try generalize UInt8.toNat c = C at *
    try generalize UInt8.toNat d = D at *
    go_enter Tryz.func24, Tryz.ntmps24
    go_wp2
    refine bodyPost_ret (v := .tuple #[.int .u8 10, .int .i64 2, .bool true]) (by simp [results, Tryz.results24, go_sem]) rfl ?_
    exact ⟨rfl, rfl⟩
   have d110 : ((d.toNat : Int) == 110) = false := u8_ne (d := 110) e110
   have hv : rba s i f e = (92, 1, true) := by
    unfold rba
    rw [h0]
    simp only [hn]
    simp [e110]
   obtain rfl : r = (92, 1, true) := HR.out.trans hv
   clear HR hv h0 h1 hn h1l hlt e110
   unfold rbaV
   try simp only
   try generalize UInt8.toNat c = C at *
   try generalize UInt8.toNat d = D at *
   go_enter Tryz.func24, Tryz.ntmps24
   go_wp2
   refine bodyPost_ret (v := .tuple #[.int .u8 92, .int .i64 1, .bool true]) (by simp [results, Tryz.results24, go_sem]) rfl ?_
   exact ⟨rfl, rfl⟩
  ·have g1 : ((i : Int) + 1 < s.length) = False := by simp; omega
   have h1 : s[i + 1]? = none := List.getElem?_eq_none (by omega)
   have hn : nxB s i = 0 := by unfold nxB; rw [h1]; rfl
   have hv : rba s i f e = (92, 1, true) := by
    unfold rba
    rw [h0]
    simp only [hn]
    simp
   obtain rfl : r = (92, 1, true) := HR.out.trans hv
   clear HR hv h0 h1 hn h1l hlt
   unfold rbaV
   try simp only
   try generalize UInt8.toNat c = C at *
   try generalize UInt8.toNat d = D at *
   go_enter Tryz.func24, Tryz.ntmps24
   go_wp2
   refine bodyPost_ret (v := .tuple #[.int .u8 92, .int .i64 1, .bool true]) (by simp [results, Tryz.results24, go_sem]) rfl ?_
   exact ⟨rfl, rfl⟩
 by_cases k93 : c = 93
 ·subst k93
  cases f with
  | true =>
   by_cases h1l : i + 1 < s.length
   ·have g1 : ((i : Int) + 1 < s.length) = True := by simp; omega
    obtain ⟨d, h1⟩ : ∃ d, s[i + 1]? = some d := ⟨_, List.getElem?_eq_getElem h1l⟩
    have x1 : ∀ W : World, (Instr.index 9 (.string ⟨s.toArray⟩) (.int .i64 ((i : Int) + 1))).run Tryz.prog W = .ok (.int .u8 (d.toNat : Int)) W := fun W => ixj_c s i 1 d h1 W
    have hn : nxB s i = d := by unfold nxB; rw [h1]; rfl
    have hv : rba s i true e = (93, 1, true) := by
     unfold rba
     rw [h0]
     simp only [hn]
     simp
    obtain rfl : r = (93, 1, true) := HR.out.trans hv
    clear HR hv h0 h1 hn h1l hlt
    unfold rbaV
    try simp only
    try generalize UInt8.toNat c = C at *
    try generalize UInt8.toNat d = D at *
    go_enter Tryz.func24, Tryz.ntmps24
    go_wp2
    refine bodyPost_ret (v := .tuple #[.int .u8 93, .int .i64 1, .bool true]) (by simp [results, Tryz.results24, go_sem]) rfl ?_
    exact ⟨rfl, rfl⟩
   ·have g1 : ((i : Int) + 1 < s.length) = False := by simp; omega
    have h1 : s[i + 1]? = none := List.getElem?_eq_none (by omega)
    have hn : nxB s i = 0 := by unfold nxB; rw [h1]; rfl
    have hv : rba s i true e = (93, 1, true) := by
     unfold rba
     rw [h0]
     simp only [hn]
     simp
    obtain rfl : r = (93, 1, true) := HR.out.trans hv
    clear HR hv h0 h1 hn h1l hlt
    unfold rbaV
    try simp only
    try generalize UInt8.toNat c = C at *
    try generalize UInt8.toNat d = D at *
    go_enter Tryz.func24, Tryz.ntmps24
    go_wp2
    refine bodyPost_ret (v := .tuple #[.int .u8 93, .int .i64 1, .bool true]) (by simp [results, Tryz.results24, go_sem]) rfl ?_
    exact ⟨rfl, rfl⟩
  | false =>
   by_cases h1l : i + 1 < s.length
   ·have g1 : ((i : Int) + 1 < s.length) = True := by simp; omega
    obtain ⟨d, h1⟩ : ∃ d, s[i + 1]? = some d := ⟨_, List.getElem?_eq_getElem h1l⟩
    have x1 : ∀ W : World, (Instr.index 9 (.string ⟨s.toArray⟩) (.int .i64 ((i : Int) + 1))).run Tryz.prog W = .ok (.int .u8 (d.toNat : Int)) W := fun W => ixj_c s i 1 d h1 W
    have hn : nxB s i = d := by unfold nxB; rw [h1]; rfl
    have hv : rba s i false e = (0, 0, false) := by
     unfold rba
     rw [h0]
     simp only [hn]
     simp
    obtain rfl : r = (0, 0, false) := HR.out.trans hv
    clear HR hv h0 h1 hn h1l hlt
    unfold rbaV
    try simp only
    try generalize UInt8.toNat c = C at *
    try generalize UInt8.toNat d = D at *
    go_enter Tryz.func24, Tryz.ntmps24
    go_wp2
    refine bodyPost_ret (v := .tuple #[.int .u8 0, .int .i64 0, .bool false]) (by simp [results, Tryz.results24, go_sem]) rfl ?_
    exact ⟨rfl, rfl⟩
   ·have g1 : ((i : Int) + 1 < s.length) = False := by simp; omega
    have h1 : s[i + 1]? = none := List.getElem?_eq_none (by omega)
    have hn : nxB s i = 0 := by unfold nxB; rw [h1]; rfl
    have hv : rba s i false e = (0, 0, false) := by
     unfold rba
     rw [h0]
     simp only [hn]
     simp
    obtain rfl : r = (0, 0, false) := HR.out.trans hv
    clear HR hv h0 h1 hn h1l hlt
    unfold rbaV
    try simp only
    try generalize UInt8.toNat c = C at *
    try generalize UInt8.toNat d = D at *
    go_enter Tryz.func24, Tryz.ntmps24
    go_wp2
    refine bodyPost_ret (v := .tuple #[.int .u8 0, .int .i64 0, .bool false]) (by simp [results, Tryz.results24, go_sem]) rfl ?_
    exact ⟨rfl, rfl⟩
 by_cases k45 : c = 45
 ·subst k45
  cases f with
  | true =>
   by_cases h1l : i + 1 < s.length
   ·have g1 : ((i : Int) + 1 < s.length) = True := by simp; omega
    obtain ⟨d, h1⟩ : ∃ d, s[i + 1]? = some d := ⟨_, List.getElem?_eq_getElem h1l⟩
    have x1 : ∀ W : World, (Instr.index 9 (.string ⟨s.toArray⟩) (.int .i64 ((i : Int) + 1))).run Tryz.prog W = .ok (.int .u8 (d.toNat : Int)) W := fun W => ixj_c s i 1 d h1 W
    have hn : nxB s i = d := by unfold nxB; rw [h1]; rfl
    have hv : rba s i true e = (45, 1, true) := by
     unfold rba
     rw [h0]
     simp only [hn]
     simp
    obtain rfl : r = (45, 1, true) := HR.out.trans hv
    clear HR hv h0 h1 hn h1l hlt
    unfold rbaV
    try simp only
    try generalize UInt8.toNat c = C at *
    try generalize UInt8.toNat d = D at *
    go_enter Tryz.func24, Tryz.ntmps24
    go_wp2
    refine bodyPost_ret (v := .tuple #[.int .u8 45, .int .i64 1, .bool true]) (by simp [results, Tryz.results24, go_sem]) rfl ?_
    exact ⟨rfl, rfl⟩
   ·have g1 : ((i : Int) + 1 < s.length) = False := by simp; omega
    have h1 : s[i + 1]? = none := List.getElem?_eq_none (by omega)
    have hn : nxB s i = 0 := by unfold nxB; rw [h1]; rfl
    have hv : rba s i true e = (45, 1, true) := by
     unfold rba
     rw [h0]
     simp only [hn]
     simp
    obtain rfl : r = (45, 1, true) := HR.out.trans hv
    clear HR hv h0 h1 hn h1l hlt
    unfold rbaV
    try simp only
    try generalize UInt8.toNat c = C at *
    try generalize UInt8.toNat d = D at *
    go_enter Tryz.func24, Tryz.ntmps24
    go_wp2
    refine bodyPost_ret (v := .tuple #[.int .u8 45, .int .i64 1, .bool true]) (by simp [results, Tryz.results24, go_sem]) rfl ?_
    exact ⟨rfl, rfl⟩
  | false =>
   cases e with
   | true =>
    by_cases h1l : i + 1 < s.length
    ·have g1 : ((i : Int) + 1 < s.length) = True := by simp; omega
     obtain ⟨d, h1⟩ : ∃ d, s[i + 1]? = some d := ⟨_, List.getElem?_eq_getElem h1l⟩
     have x1 : ∀ W : World, (Instr.index 9 (.string ⟨s.toArray⟩) (.int .i64 ((i : Int) + 1))).run Tryz.prog W = .ok (.int .u8 (d.toNat : Int)) W := fun W => ixj_c s i 1 d h1 W
     have hn : nxB s i = d := by unfold nxB; rw [h1]; rfl
     have hv : rba s i false true = (45, 1, true) := by
      unfold rba
      rw [h0]
      simp only [hn]
      simp
     obtain rfl : r = (45, 1, true) := HR.out.trans hv
     clear HR hv h0 h1 hn h1l hlt
     unfold rbaV
     try simp only
     try generalize UInt8.toNat c = C at *
     try generalize UInt8.toNat d = D at *
     go_enter Tryz.func24, Tryz.ntmps24
     go_wp2
     refine bodyPost_ret (v := .tuple #[.int .u8 45, .int .i64 1, .bool true]) (by simp [results, Tryz.results24, go_sem]) rfl ?_
     exact ⟨rfl, rfl⟩
    ·have g1 : ((i : Int) + 1 < s.length) = False := by simp; omega
     have h1 : s[i + 1]? = none := List.getElem?_eq_none (by omega)
     have hn : nxB s i = 0 := by unfold nxB; rw [h1]; rfl
     have hv : rba s i false true = (45, 1, true) := by
      unfold rba
      rw [h0]
      simp only [hn]
      simp
     obtain rfl : r = (45, 1, true) := HR.out.trans hv
     clear HR hv h0 h1 hn h1l hlt
     unfold rbaV
     try simp only
     try generalize UInt8.toNat c = C at *
     try generalize UInt8.toNat d = D at *
     go_enter Tryz.func24, Tryz.ntmps24
     go_wp2
     refine bodyPost_ret (v := .tuple #[.int .u8 45, .int .i64 1, .bool true]) (by simp [results, Tryz.results24, go_sem]) rfl ?_
     exact ⟨rfl, rfl⟩
   | false =>
    by_cases h1l : i + 1 < s.length
    ·have g1 : ((i : Int) + 1 < s.length) = True := by simp; omega
     obtain ⟨d, h1⟩ : ∃ d, s[i + 1]? = some d := ⟨_, List.getElem?_eq_getElem h1l⟩
     have x1 : ∀ W : World, (Instr.index 9 (.string ⟨s.toArray⟩) (.int .i64 ((i : Int) + 1))).run Tryz.prog W = .ok (.int .u8 (d.toNat : Int)) W := fun W => ixj_c s i 1 d h1 W
     have hn : nxB s i = d := by unfold nxB; rw [h1]; rfl
     by_cases e93 : d = 93
     ·subst e93
      have hv : rba s i false false = (45, 1, true) := by
       unfold rba
       rw [h0]
       simp only [hn]
       simp
      obtain rfl : r = (45, 1, true) := HR.out.trans hv
      clear HR hv h0 h1 hn h1l hlt
      unfold rbaV
      try simp only
      try generalize UInt8.toNat c = C at *
      try generalize UInt8.toNat d = D at *
      go_enter Tryz.func24, Tryz.ntmps24
      go_wp2
      refine bodyPost_ret (v := .tuple #[.int .u8 45, .int .i64 1, .bool true]) (by simp [results, Tryz.results24, go_sem]) rfl ?_
      exact ⟨rfl, rfl⟩
     have d93 : ((d.toNat : Int) == 93) = false := u8_ne (d := 93) e93
     have dn93 : ((d.toNat : Int) != 93) = true := by rw [bne, d93]; rfl
     have hv : rba s i false false = (0, 0, false) := by
      unfold rba
      rw [h0]
      simp only [hn]
      simp [e93]
     obtain rfl : r = (0, 0, false) := HR.out.trans hv
     clear HR hv h0 h1 hn h1l hlt e93
     unfold rbaV
     try simp only
     try generalize UInt8.toNat c = C at *
     try generalize UInt8.toNat d = D at *
     go_enter Tryz.func24, Tryz.ntmps24
     go_wp2
     refine bodyPost_ret (v := .tuple #[.int .u8 0, .int .i64 0, .bool false]) (by simp [results, Tryz.results24, go_sem]) rfl ?_
     exact ⟨rfl, rfl⟩
    ·have g1 : ((i : Int) + 1 < s.length) = False := by simp; omega
     have h1 : s[i + 1]? = none := List.getElem?_eq_none (by omega)
     have hn : nxB s i = 0 := by unfold nxB; rw [h1]; rfl
     have hv : rba s i false false = (0, 0, false) := by
      unfold rba
      rw [h0]
      simp only [hn]
      simp
     obtain rfl : r = (0, 0, false) := HR.out.trans hv
     clear HR hv h0 h1 hn h1l hlt
     unfold rbaV
     try simp only
     try generalize UInt8.toNat c = C at *
     try generalize UInt8.toNat d = D at *
     go_enter Tryz.func24, Tryz.ntmps24
     go_wp2
     refine bodyPost_ret (v := .tuple #[.int .u8 0, .int .i64 0, .bool false]) (by simp [results, Tryz.results24, go_sem]) rfl ?_
     exact ⟨rfl, rfl⟩
 have c91 : ((c.toNat : Int) == 91) = false := u8_ne (d := 91) k91
 have c92 : ((c.toNat : Int) == 92) = false := u8_ne (d := 92) k92
 have c93 : ((c.toNat : Int) == 93) = false := u8_ne (d := 93) k93
 have c45 : ((c.toNat : Int) == 45) = false := u8_ne (d := 45) k45
 by_cases h1l : i + 1 < s.length
 ·have g1 : ((i : Int) + 1 < s.length) = True := by simp; omega
  obtain ⟨d, h1⟩ : ∃ d, s[i + 1]? = some d := ⟨_, List.getElem?_eq_getElem h1l⟩
  have x1 : ∀ W : World, (Instr.index 9 (.string ⟨s.toArray⟩) (.int .i64 ((i : Int) + 1))).run Tryz.prog W = .ok (.int .u8 (d.toNat : Int)) W := fun W => ixj_c s i 1 d h1 W
  have hn : nxB s i = d := by unfold nxB; rw [h1]; rfl
  have hv : rba s i f e = (c, 1, true) := by
   unfold rba
   rw [h0]
   simp [k91, k92, k93, k45]
  obtain rfl : r = (c, 1, true) := HR.out.trans hv
  clear HR hv h0 h1 hn h1l hlt k91 k92 k93 k45
  unfold rbaV
  try simp only
  try generalize UInt8.toNat c = C at *
  try generalize UInt8.toNat d = D at *
  go_enter Tryz.func24, Tryz.ntmps24
  go_wp2
  refine bodyPost_ret (v := .tuple #[.int .u8 (C : Int), .int .i64 1, .bool true]) (by simp [results, Tryz.results24, go_sem]) rfl ?_
  exact ⟨rfl, rfl⟩
 ·have g1 : ((i : Int) + 1 < s.length) = False := by simp; omega
  have h1 : s[i + 1]? = none := List.getElem?_eq_none (by omega)
  have hn : nxB s i = 0 := by unfold nxB; rw [h1]; rfl
  have hv : rba s i f e = (c, 1, true) := by
   unfold rba
   rw [h0]
   simp [k91, k92, k93, k45]
  obtain rfl : r = (c, 1, true) := HR.out.trans hv
  clear HR hv h0 h1 hn h1l hlt k91 k92 k93 k45
  unfold rbaV
  try simp only
  try generalize UInt8.toNat c = C at *
  try generalize UInt8.toNat d = D at *
  go_enter Tryz.func24, Tryz.ntmps24
  go_wp2
  refine bodyPost_ret (v := .tuple #[.int .u8 (C : Int), .int .i64 1, .bool true]) (by simp [results, Tryz.results24, go_sem]) rfl ?_
  exact ⟨rfl, rfl⟩
end Go.Proofs.YtkmfncajdkdenaaGreatDoor
namespace Go.Proofs.YtkmfncajdkdenaaGreatDoor
open Go.RowKit
theorem rof_c (s : ByteArray) (hs : s.size < 9223372036854775807) (w : World) :
  Calls Tryz.prog 46 #[.string s] w fun e w' => e = .returned (bv (inS s s.size)) ∧ Below w.heap.size w w' := by
 obtain ⟨hz, hsz⟩ := zero_of_info (P := Tryz.prog) info27
 have hst0 := store_fresh w
 unfold bv
 go_enter Tryz.func46, Tryz.ntmps46
 go_wp2
 clear hst0
 go_loopw [4] (fun i wr => ∃ k : Nat, k ≤ s.size ∧ i = .int .i64 k ∧ Row wr w.heap.size (fun _ => false) ∧ Row wr (w.heap.size + 1) (inS s k) ∧ Below w.heap.size w wr) (fun i _ => s.size - (RowKit.intOf i).toNat)
 case atStart =>
  refine ⟨0, by omega, rfl, (Row.new w _).alloc _, ?_, ((Below.refl _ w).alloc (Nat.le_refl _) _).alloc (by simp) _⟩
  have := Row.new (w.alloc (.cells (barr fun _ => false) 30)) (fun _ => false)
  rw [World.size_alloc] at this
  exact this.congr fun i _ => by simp [inS]
 case round =>
  obtain ⟨k, hk, rfl, h0, h1, hB⟩ := hrel
  by_cases hlt : k < s.size
  ·have hle := s[k].toNat_lt
   have hc := h1.cell s[k].toNat hle
   have hf := h1.fz s[k].toNat
   go_wp2
   go_roundw
   case rel =>
    refine ⟨k + 1, by omega, by simp, h0.other (by simp) _, (h1.set _ _).congr fun i _ => ?_, hB.setCell (p := ⟨w.heap.size + 1, s[k].toNat, none⟩) (by simp) _⟩
    rw [inS_succ s k i hlt]
    by_cases e : i = s[k].toNat
    ·simp [e]
    ·have e2 : (i == s[k].toNat) = false := by simp [e]
     rw [if_neg e, e2, Bool.or_false]
   case measure => simp [RowKit.intOf]; omega
  ·obtain rfl : k = s.size := by omega
   have hst := h0.storeCells
   go_wp2
   refine wp_load_row h1 rfl rfl ?_
   go_wp2
   have q := h0.put (inS s s.size)
   have ql := q.load
   refine bodyPost_ret (v := .agg (barr (inS s s.size))) ?_ rfl ⟨rfl, Below.setRow hB (by omega) _⟩
   simp [results, Tryz.results46, asAddr, Result.andThen, ql]
end Go.Proofs.YtkmfncajdkdenaaGreatDoor
