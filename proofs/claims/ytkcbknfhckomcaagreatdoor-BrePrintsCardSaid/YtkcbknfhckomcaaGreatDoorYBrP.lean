/- A reader: a number: the walk. -/
import Derived.Test.YtkcbknfhckomcaaGreatDoorYBrN
import Derived.Lib.AtoiAllCases
import Derived.Lib.SmallJoins
import Derived.Deep.RegionHeld3
set_option linter.unusedVariables false
set_option linter.unusedSimpArgs false
set_option maxRecDepth 100000
set_option maxHeartbeats 40000000
namespace Go.Proofs.YtkcbknfhckomcaaGreatDoor
open Go.RowKit
theorem digsP_stop (s : List UInt8) (i k : Nat) (hk : k ≤ 3) (hi : i + k ≤ s.length) (hall : ∀ j, j < k → ∃ c, s[i + j]? = some c ∧ isDig c = true) (hst : k = 3 ∨ i + k = s.length ∨ ∃ c, s[i + k]? = some c ∧ isDig c = false) : digsP s i = (s.drop i).take k := by
 have h0 : ∀ (l : List UInt8) (n : Nat), (∀ j, j < n → ∃ c, l[j]? = some c ∧ isDig c = true) → (n = l.length ∨ ∃ c, l[n]? = some c ∧ isDig c = false) → l.takeWhile isDig = l.take n := by
  intro l
  induction l with
  | nil =>
   intro n h1 h2
   simp
  | cons a l ih =>
   intro n h1 h2
   cases n with
   | zero =>
    rcases h2 with h2 | ⟨c, hc, hd⟩
    ·simp at h2
    ·have e : a = c := by simpa using hc
     rw [e, List.takeWhile_cons, hd]
     simp
   | succ n =>
    obtain ⟨c, hc, hd⟩ := h1 0 (by omega)
    have e : a = c := by simpa using hc
    rw [e, List.takeWhile_cons, hd]
    simp only [if_true, List.take_succ_cons]
    rw [ih n (fun j hj => by simpa using h1 (j + 1) (by omega)) (by
     rcases h2 with h2 | ⟨c', hc', hd'⟩
     ·exact .inl (by simpa using h2)
     ·exact .inr ⟨c', by simpa using hc', hd'⟩)]
 have hg : ∀ j, j < 3 → ((s.drop i).take 3)[j]? = s[i + j]? := fun j hj => by rw [List.getElem?_take_of_lt hj, List.getElem?_drop]
 unfold digsP
 rw [h0 ((s.drop i).take 3) k (fun j hj => by rw [hg j (by omega)]; exact hall j hj) (by
  have hl : ((s.drop i).take 3).length = min 3 (s.length - i) := by simp
  rcases hst with h | h | ⟨c, hc, hd⟩
  ·left; rw [hl]; omega
  ·left; rw [hl]; omega
  ·by_cases h3 : k = 3
   ·left; rw [hl]; omega
   ·exact .inr ⟨c, by rw [hg k (by omega)]; exact hc, hd⟩)]
 rw [List.take_take]
 congr 1
 omega
theorem atoi_one : ∀ a : Nat, a < 10 → Lib.atoiAll [UInt8.ofNat (48 + a)] = .ok (a : Int) := by decide +kernel
theorem atoi_two : ∀ a : Nat, a < 10 → ∀ b : Nat, b < 10 → Lib.atoiAll [UInt8.ofNat (48 + a), UInt8.ofNat (48 + b)] = .ok ((a * 10 + b : Nat) : Int) := by decide +kernel
theorem atoi_three : ∀ a : Nat, a < 10 → ∀ b : Nat, b < 10 → ∀ c : Nat, c < 10 → Lib.atoiAll [UInt8.ofNat (48 + a), UInt8.ofNat (48 + b), UInt8.ofNat (48 + c)] = .ok (((a * 10 + b) * 10 + c : Nat) : Int) := by decide +kernel
theorem dig_of {c : UInt8} (h : isDig c = true) : ∃ a : Nat, a < 10 ∧ c = UInt8.ofNat (48 + a) ∧ c.toNat - 48 = a := by
 unfold isDig at h
 rw [Bool.and_eq_true, decide_eq_true_iff, decide_eq_true_iff] at h
 refine ⟨c.toNat - 48, by omega, ?_, rfl⟩
 apply UInt8.toNat_inj.1
 rw [show 48 + (c.toNat - 48) = c.toNat by omega]
 simp
theorem atoi_digs (l : List UInt8) (hl : l.length ≤ 3) (hd : ∀ c ∈ l, isDig c = true) : Lib.atoiAll l = if l = [] then Lib.atoiAll [] else .ok ((valP l : Nat) : Int) := by
 match l, hl with
 | [], _ => rfl
 | [a], _ =>
  obtain ⟨x, hx, rfl, e⟩ := dig_of (hd a (by simp))
  rw [if_neg (by simp), atoi_one x hx]
  simp only [valP, List.foldl]
  rw [e]; simp
 | [a, b], _ =>
  obtain ⟨x, hx, rfl, e⟩ := dig_of (hd a (by simp))
  obtain ⟨y, hy, rfl, e2⟩ := dig_of (hd b (by simp))
  rw [if_neg (by simp), atoi_two x hx y hy]
  simp only [valP, List.foldl]
  rw [e, e2]; simp
 | [a, b, c], _ =>
  obtain ⟨x, hx, rfl, e⟩ := dig_of (hd a (by simp))
  obtain ⟨y, hy, rfl, e2⟩ := dig_of (hd b (by simp))
  obtain ⟨z, hz, rfl, e3⟩ := dig_of (hd c (by simp))
  rw [if_neg (by simp), atoi_three x hx y hy z hz]
  simp only [valP, List.foldl]
  rw [e, e2, e3]; simp
def SynV (w : World) : Prop := ∃ tp p, w.var? Tryz.prog "strconv.ErrSyntax" = some #[.iface tp p]
theorem synNm : Tryz.prog.globalNamed "strconv.ErrSyntax" = some 4 := by kernel_rfl
theorem SynV.same {w w' : World} (h : SynV w) (e : w'.heap[4]? = w.heap[4]?) : SynV w' := by
 obtain ⟨tp, p, h⟩ := h
 refine ⟨tp, p, ?_⟩
 unfold World.var? at h ⊢
 rw [synNm] at h ⊢
 simp only [Option.bind_some] at h ⊢
 rw [e]; exact h
theorem SynV.lt {w : World} (h : SynV w) : 4 < w.heap.size := by
 obtain ⟨tp, p, h⟩ := h
 exact cell_lt ((World.var?_cell synNm h 0).trans rfl)
theorem MaxL.lt {w : World} (h : MaxL w) : 2 < w.heap.size := by obtain ⟨m, h⟩ := h; exact cell_lt h
theorem MaxL.same {w w' : World} (h : MaxL w) (e : w'.heap[2]? = w.heap[2]?) : MaxL w' := by
 obtain ⟨m, h⟩ := h
 refine ⟨m, ?_⟩
 rw [← h]
 simp only [World.cell?, e]
structure FB (w : World) (b : Nat) (v : Value) : Prop where
 m : MaxL w
 sy : SynV w
 bm : b ≠ 2
 bs : b ≠ 4
 vm : v.ownBlock ≠ some 2
 vs : v.ownBlock ≠ some 4
theorem FB.step {w w' : World} {b : Nat} {v v' : Value} (h : FB w b v) (k : RK w b v w' v') : FB w' b v' := by
 have hm := h.m.lt
 have hs := h.sy.lt
 refine ⟨h.m.same (k.k.block _ hm (fun e => by rcases e with e | e; exact h.bm e.symm; exact h.vm e)), h.sy.same (k.k.block _ hs (fun e => by rcases e with e | e; exact h.bs e.symm; exact h.vs e)), h.bm, h.bs, ?_, ?_⟩
 ·rcases k.v with e | ⟨j, e, hj⟩
  ·rw [e]; exact h.vm
  ·rw [e]; intro q; have := Option.some.inj q; omega
 ·rcases k.v with e | ⟨j, e, hj⟩
  ·rw [e]; exact h.vs
  ·rw [e]; intro q; have := Option.some.inj q; omega
theorem atoib_c (l : List UInt8) (hl : l.length ≤ 3) (hd : ∀ c ∈ l, isDig c = true) (w : World) (h : SynV w) :
  Calls Tryz.prog 125 #[.string ⟨l.toArray⟩] w fun e w' => (∃ v, e = .returned (.tuple #[.int .i64 ((valP l : Nat) : Int), v]) ∧ ((l ≠ [] ∧ v = .nilIface) ∨ (l = [] ∧ ∃ t N, v = .iface t (.pointer (some ⟨N, 0, none⟩))))) ∧ Below w.heap.size w w' := by
 have ha := atoi_digs l hl hd
 by_cases he : l = []
 ·subst he
  obtain ⟨tp, p, hv⟩ := h
  refine (Any.strconv_Atoi_syntax_var Tryz.laysC172 ⟨([] : List UInt8).toArray⟩ (by simp [ByteArray.size]) rfl tp p w hv).mono ?_
  rintro e w' ⟨M, rfl, _, _, hB⟩
  exact ⟨⟨_, rfl, .inr ⟨rfl, _, M, rfl⟩⟩, hB⟩
 ·rw [if_neg he] at ha
  refine (Tryz.strconv_Atoi_ok ⟨l.toArray⟩ (by simp [ByteArray.size]; omega) _ (by simpa using ha) w).mono ?_
  rintro e w' ⟨rfl, rfl | ⟨t, rfl⟩⟩
  ·exact ⟨⟨_, rfl, .inl ⟨he, rfl⟩⟩, Below.refl _ _⟩
  ·exact ⟨⟨_, rfl, .inl ⟨he, rfl⟩⟩, Joins.below_bytesWorld _ _ _ _ (Nat.le_refl _)⟩
section
variable {b : Nat} {s : List UInt8} {r : BRd} {v : Value} {T : TypeId} {cs : Array Value} {p : Nat}
end
end Go.Proofs.YtkcbknfhckomcaaGreatDoor
namespace Go.Proofs.YtkcbknfhckomcaaGreatDoor
open Go.RowKit
section
variable {b : Nat} {s : List UInt8} {T : TypeId} {cs : Array Value} {p : Nat}
theorem over_q2 (w : World) (c0 : w.cell? ⟨b, 0, none⟩ = some (.string ⟨s.toArray⟩)) (k : Nat) (c1 : w.cell? ⟨b, 1, none⟩ = some (.int .i64 ((p : Int) + (k : Int)))) :
  Calls Tryz.prog 35 #[.pointer (some ⟨b, 0, none⟩)] w fun e w' => e = .returned (.bool (decide (p + k = s.length))) ∧ ∃ n, w' = w.drewN n := by
 have hsz : (⟨s.toArray⟩ : ByteArray).size = s.length := by simp [ByteArray.size]
 have he : ((p : Int) + (k : Int) == (s.length : Int)) = decide (p + k = s.length) := by
  rw [Bool.eq_iff_iff]; simp; omega
 go_enter Tryz.func35, Tryz.ntmps35
 go_wp2_with fail
 go_quiet (fail)
 go_wp2
 go_ret
 exact ⟨rfl, _, rfl⟩
theorem slice_two (s : List UInt8) (hl : s.length ≤ 100000) (p k : Nat) (hp : p + k ≤ s.length) (w : World) : (Instr.slice 9 (.string ⟨s.toArray⟩) (some (.int .i64 (p : Int))) (some (.int .i64 ((p : Int) + (k : Int)))) none).run Tryz.prog w = .ok (.string ⟨((s.drop p).take k).toArray⟩) w := by
 have hs : (⟨s.toArray⟩ : ByteArray).size = s.length := by simp [ByteArray.size]
 have e : (⟨s.toArray⟩ : ByteArray).extract p (p + k) = ⟨((s.drop p).take k).toArray⟩ := by
  apply ByteArray.ext
  apply Array.ext'
  simp [ByteArray.data_extract]
 rw [run_slice_string_if (P := Tryz.prog) w 9 _ .i64 .i64 (p : Int) ((p : Int) + (k : Int)) Tryz.underlying9, if_pos ⟨by omega, by rw [hs]; omega⟩, if_pos ⟨by omega, by omega⟩]
 rw [show ((p : Int) + (k : Int)).toNat = p + k by omega, show ((p : Int)).toNat = p by omega, e]
theorem bnumber_c (w : World) (h : TX w b T cs s p) (hsy : SynV w) (hbs : b ≠ 4) :
  Calls Tryz.prog 112 #[.pointer (some ⟨b, 0, none⟩)] w fun e w' => e = .returned (.tuple #[.int .i64 (numP s p).1, .bool (numP s p).2.1]) ∧ Mv w b T cs s (numP s p).2.2 w' := by
 have hs := h.s
 have hpl := h.p
 have c0 := h.cell0
 have c1 := h.cell1
 have hsz : (⟨s.toArray⟩ : ByteArray).size = s.length := by simp [ByteArray.size]
 have hsyl := hsy.lt
 have HS := Lib.hid hs
 have SYN := Lib.hid fun W (hg : w.grownBy W (some b)) => hsy.same (hg.block _ hsyl (fun e => hbs (Option.some.inj e).symm))
 have HQ := Lib.hid fun W c0 k c1 => over_q2 (b := b) (s := s) (p := p) W c0 k c1
 have HM0 := Lib.hid (Mv.of h (Below.refl _ _))
 clear h hsy
 go_enter Tryz.func112, Tryz.ntmps112
 go_wp2
 go_loopw [] (fun wr => ∃ k : Nat, k ≤ 3 ∧ p + k ≤ s.length ∧ (∀ j, j < k → ∃ c, s[p + j]? = some c ∧ isDig c = true) ∧ Mv w b T cs s (p + k) wr) (fun wr => s.length - placeIn b wr)
 case atStart => exact ⟨0, by omega, hpl, fun j hj => absurd hj (by omega), HM0.out⟩
 case round =>
  clear HM0 c0 c1
  obtain ⟨k, hk, hpk, hall, hM⟩ := hrel
  have hpo := hM.place
  have c0 := hM.x.cell0
  have c1 := hM.x.cell1
  have cf := hM.x.fz
  rw [Int.natCast_add] at c1
  have ew3 : IntKind.i64.wrap ((p : Int) + 3) = (p : Int) + 3 := by simp [IntKind.wrap, IntKind.signed, IntKind.bits]; omega
  have ew1 : IntKind.i64.wrap ((p : Int) + (k : Int) + 1) = (p : Int) + (k : Int) + 1 := by simp [IntKind.wrap, IntKind.signed, IntKind.bits]; omega
  by_cases h1 : p + k = s.length
  rotate_left
  have hd : decide (p + k = s.length) = false := by simpa using h1
  by_cases h3 : k = 3
  rotate_left
  have hl3 : ((p : Int) + (k : Int) < (p : Int) + 3) = True := by simp; omega
  obtain ⟨c, hc⟩ : ∃ c, s[p + k]? = some c := ⟨_, List.getElem?_eq_getElem (by omega)⟩
  have hx := fun W => ix_c hM.x c hc W
  rw [Int.natCast_add] at hx
  by_cases hlo : 48 ≤ c.toNat
  have hge : ((48 : Int) ≤ (c.toNat : Int)) = True := by simp; omega
  by_cases hhi : c.toNat ≤ 57
  ·have hle : ((c.toNat : Int) ≤ 57) = True := by simp; omega
   have hnew : ∀ j, j < k + 1 → ∃ c, s[p + j]? = some c ∧ isDig c = true := fun j hj => by
    by_cases e : j = k
    ·subst e; exact ⟨c, hc, by unfold isDig; simp [hlo, hhi]⟩
    ·exact hall j (by omega)
   have HM1 := Lib.hid hM
   have HA1 := Lib.hid hnew
   clear hM hall hnew
   go_wp2_with fail
   go_quiet (exact Calls.quiet_of (HQ.out _ (by assumption) _ (by assumption)))
   have m2 := (HM1.out.below (Go.below_drewN (Below.refl wr.heap.size wr) nq)).set (p + (k + 1)) (by omega)
   have ec : ((p + (k + 1) : Nat) : Int) = (p : Int) + (k : Int) + 1 := by omega
   rw [ec] at m2
   have hpn := m2.place
   have HM2 := Lib.hid m2
   clear m2
   go_wp2
   go_roundw
   case rel => exact ⟨k + 1, by omega, by omega, HA1.out, HM2.out⟩
   case measure => rw [hpn, hpo]; omega
  have hle : ((c.toNat : Int) ≤ 57) = False := by simp; omega
  have hst : k = 3 ∨ p + k = s.length ∨ ∃ c, s[p + k]? = some c ∧ isDig c = false := .inr (.inr ⟨c, hc, by unfold isDig; simp [hlo, hhi]⟩)
  rotate_left
  have hge : ((48 : Int) ≤ (c.toNat : Int)) = False := by simp; omega
  have hst : k = 3 ∨ p + k = s.length ∨ ∃ c, s[p + k]? = some c ∧ isDig c = false := .inr (.inr ⟨c, hc, by unfold isDig; simp [hlo]⟩)
  rotate_left
  have hst : k = 3 ∨ p + k = s.length ∨ ∃ c, s[p + k]? = some c ∧ isDig c = false := .inr (.inl h1)
  rotate_left
  have hst : k = 3 ∨ p + k = s.length ∨ ∃ c, s[p + k]? = some c ∧ isDig c = false := .inl h3
  have hl3 : ((p : Int) + (k : Int) < (p : Int) + 3) = False := by simp; omega
  clear h3
  all_goals
   have HM1 := Lib.hid hM
   have HA1 := Lib.hid hall
   have HT1 := Lib.hid hst
   clear hM hall hst
   go_wp2_with fail
   go_quiet (exact Calls.quiet_of (HQ.out _ (by assumption) _ (by assumption)))
   have hM := HM1.out
   have hall := HA1.out
   have hst := HT1.out
   have HB3 := Lib.hid (Go.below_drewN (Below.refl wr.heap.size wr) nq)
   clear HM1 HA1 HT1
   have hdg : digsP s p = (s.drop p).take k := digsP_stop s p k hk hpk hall hst
   have hmem : ∀ c ∈ (s.drop p).take k, isDig c = true := fun c hc => by
    obtain ⟨j, hj, e⟩ := List.mem_iff_getElem.1 hc
    have hj' : j < k := by simp at hj; omega
    obtain ⟨c', h1, h2⟩ := hall j hj'
    have : ((s.drop p).take k)[j]? = some c := by rw [List.getElem?_eq_getElem hj, e]
    rw [List.getElem?_take_of_lt hj', List.getElem?_drop, h1] at this
    cases this; exact h2
   have hlen : ((s.drop p).take k).length = k := by simp; omega
   have hnum : numP s p = (((valP ((s.drop p).take k) : Nat) : Int), !((s.drop p).take k).isEmpty, p + k) := by unfold numP; rw [hdg, hlen]
   have HNUM := Lib.hid hnum
   have hsl := fun W => slice_two s HS.out p k hpk W
   have HAT := Lib.hid fun W hW => atoib_c ((s.drop p).take k) (by omega) hmem W hW
   have hsy := SYN.out wr hM.g
   have HM := Lib.hid hM
   have hX := hM.x
   clear hdg hmem hall hst hnum
   generalize (s.drop p).take k = L at *
   go_wp2_with fail
   refine wp_region_held_drew (S := fun w' => TX w' b T (cs.setIfInBounds 1 (.int .i64 ((p + k : Nat) : Int))) s (p + k)) (by kernel_rfl) ?_ (fun hHeld => ?_)
   ·(try dsimp only); exact (hX.below HB3.out).below (Below.refl _ _).drew
   refine wpAnyH_take (i := 0) (v := ?_) rfl (by kernel_rfl) (by kernel_rfl) (by kernel_rfl) (fun _ _ _ h => h) (Or.inl ⟨by kernel_rfl, ?_⟩) (by assumption) ?_
   rotate_left
   ·(intro w hSw; (try dsimp only at hSw); go_simp); (try with_reducible rfl)
   try simp only [Act.put, laS]
   refine wpAnyH_take (i := 1) (v := ?_) rfl (by kernel_rfl) (by kernel_rfl) (by kernel_rfl) (fun _ _ _ h => h) (Or.inl ⟨by kernel_rfl, ?_⟩) (by assumption) ?_
   rotate_left
   ·(intro w hSw; (try dsimp only at hSw); go_simp); (try with_reducible rfl)
   try simp only [Act.put, laS]
   refine wpAnyH_take (i := 2) (v := ?_) rfl (by kernel_rfl) (by kernel_rfl) (by kernel_rfl) (fun _ _ _ h => h) (Or.inl ⟨by kernel_rfl, ?_⟩) (by assumption) ?_
   rotate_left
   ·(intro w hSw; (try dsimp only at hSw); go_simp); (try with_reducible rfl)
   try simp only [Act.put, laS]
   refine wpAnyH_take (i := 3) (v := ?_) rfl (by kernel_rfl) (by kernel_rfl) (by kernel_rfl) (fun _ _ _ h => h) (Or.inl ⟨by kernel_rfl, ?_⟩) (by assumption) ?_
   rotate_left
   ·(intro w hSw; (try dsimp only at hSw); go_simp); (try with_reducible rfl)
   try simp only [Act.put, laS]
   refine wpAnyH_take (i := 4) (v := ?_) rfl (by kernel_rfl) (by kernel_rfl) (by kernel_rfl) (fun _ _ _ h => h) (Or.inl ⟨by kernel_rfl, ?_⟩) (by assumption) ?_
   rotate_left
   ·(intro w hSw; (try dsimp only at hSw); have z0 := hSw.cell0; have z1 := hSw.cell1; rw [Int.natCast_add] at z1; go_simp); (try with_reducible rfl)
   try simp only [Act.put, laS]
   refine wpAnyH_take (i := 5) (v := ?_) rfl (by kernel_rfl) (by kernel_rfl) (by kernel_rfl) (fun _ _ _ h => h) (Or.inl ⟨by kernel_rfl, ?_⟩) (by assumption) ?_
   rotate_left
   ·(intro w hSw; (try dsimp only at hSw); go_simp); (try with_reducible rfl)
   try simp only [Act.put, laS]
   refine wpAnyH_take (i := 6) (v := ?_) rfl (by kernel_rfl) (by kernel_rfl) (by kernel_rfl) (fun _ _ _ h => h) (Or.inl ⟨by kernel_rfl, ?_⟩) (by assumption) ?_
   rotate_left
   ·(intro w hSw; (try dsimp only at hSw); go_simp); (try with_reducible rfl)
   try simp only [Act.put, laS]
   refine wpAnyH_take (i := 7) (v := ?_) rfl (by kernel_rfl) (by kernel_rfl) (by kernel_rfl) (fun _ _ _ h => h) (Or.inl ⟨by kernel_rfl, ?_⟩) (by assumption) ?_
   rotate_left
   ·(intro w hSw; (try dsimp only at hSw); go_simp); (try with_reducible rfl)
   try simp only [Act.put, laS]
   refine wpAnyH_take (i := 8) (v := ?_) rfl (by kernel_rfl) (by kernel_rfl) (by kernel_rfl) (fun _ _ _ h => h) (Or.inl ⟨by kernel_rfl, ?_⟩) (by assumption) ?_
   rotate_left
   ·(intro w hSw; (try dsimp only at hSw); go_simp); (try with_reducible rfl)
   try simp only [Act.put, laS]
   refine wpAnyH_take (i := 9) (v := ?_) rfl (by kernel_rfl) (by kernel_rfl) (by kernel_rfl) (fun _ _ _ h => h) (Or.inl ⟨by kernel_rfl, ?_⟩) (by assumption) ?_
   rotate_left
   ·(intro w hSw; (try dsimp only at hSw); go_simp); (try with_reducible rfl)
   try simp only [Act.put, laS]
   refine wpAnyH_take (i := 10) (v := ?_) rfl (by kernel_rfl) (by kernel_rfl) (by kernel_rfl) (fun _ _ _ h => h) (Or.inl ⟨by kernel_rfl, ?_⟩) (by assumption) ?_
   rotate_left
   ·(intro w hSw; (try dsimp only at hSw); have z0 := hSw.cell0; have z1 := hSw.cell1; rw [Int.natCast_add] at z1; go_simp); (try with_reducible rfl)
   try simp only [Act.put, laS]
   refine wpAnyH_take (i := 11) (v := ?_) rfl (by kernel_rfl) (by kernel_rfl) (by kernel_rfl) (fun _ _ _ h => h) (Or.inl ⟨by kernel_rfl, ?_⟩) (by assumption) ?_
   rotate_left
   ·(intro w hSw; (try dsimp only at hSw); go_simp); (try with_reducible rfl)
   try simp only [Act.put, laS]
   refine wpAnyH_ready (rs := [12]) (by kernel_rfl) (by simp) ?_
   refine AllReadyH.cons rfl (fun K hK => ?_) AllReadyH.nil
   go_simp
   refine (HAT.out _ (SYN.out _ ((hM.below HB3.out).below (Below.refl _ _).drew).g)).mono ?_
   rintro e wz ⟨⟨V, rfl, hV⟩, hBz⟩
   have hMz := ((HM.out.below HB3.out).below (Below.refl _ _).drew).below hBz
   have hXz := hMz.x
   refine hK.out _ _ ?_ (fun hHeld => ?_)
   ·(try dsimp only); exact hXz
   clear hK K
   try simp only [Act.put, laS]
   refine wpAnyH_take (i := 13) (v := ?_) rfl (by kernel_rfl) (by kernel_rfl) (by kernel_rfl) (fun _ _ _ h => h) (Or.inl ⟨by kernel_rfl, ?_⟩) (by assumption) ?_
   rotate_left
   ·(intro w hSw; (try dsimp only at hSw); go_simp); (try with_reducible rfl)
   try simp only [Act.put, laS]
   refine wpAnyH_take (i := 14) (v := ?_) rfl (by kernel_rfl) (by kernel_rfl) (by kernel_rfl) (fun _ _ _ h => h) (Or.inl ⟨by kernel_rfl, ?_⟩) (by assumption) ?_
   rotate_left
   ·(intro w hSw; (try dsimp only at hSw); go_simp); (try with_reducible rfl)
   try simp only [Act.put, laS]
   refine wpAnyH_take (i := 15) (v := ?_) rfl (by kernel_rfl) (by kernel_rfl) (by kernel_rfl) (fun _ _ _ h => h) (Or.inl ⟨by kernel_rfl, ?_⟩) (by assumption) ?_
   rotate_left
   ·(intro w hSw; (try dsimp only at hSw); go_simp); (try with_reducible rfl)
   try simp only [Act.put, laS]
   refine wpAnyH_take (i := 16) (v := ?_) rfl (by kernel_rfl) (by kernel_rfl) (by kernel_rfl) (fun _ _ _ h => h) (Or.inl ⟨by kernel_rfl, ?_⟩) (by assumption) ?_
   rotate_left
   ·(intro w hSw; (try dsimp only at hSw); go_simp); (try with_reducible rfl)
   try simp only [Act.put, laS]
   refine wpAnyH_take (i := 17) (v := ?_) rfl (by kernel_rfl) (by kernel_rfl) (by kernel_rfl) (fun _ _ _ h => h) (Or.inl ⟨by kernel_rfl, ?_⟩) (by assumption) ?_
   rotate_left
   ·(intro w hSw; (try dsimp only at hSw); go_simp); (try with_reducible rfl)
   try simp only [Act.put, laS]
   refine wpAnyH_done (by kernel_rfl) ?_ _
   have HMz := Lib.hid hMz
   clear hMz hXz hX hBz hHeld HAT HM hsl
   rcases hV with ⟨hne, rfl⟩ | ⟨rfl, tt, NN, rfl⟩
   ·have hemp : (!L.isEmpty) = true := by cases L with
     | nil => exact absurd rfl hne
     | cons _ _ => rfl
    clear hne
    go_wp2_with fail
    go_quiet (fail)
    go_wp2
    refine bodyPost_ret (v := .tuple #[.int .i64 ((valP L : Nat) : Int), .bool true]) (by simp [results, Tryz.results112, go_sem]) rfl ?_
    exact ⟨by rw [HNUM.out]; simp only [hemp], by rw [HNUM.out]; exact HMz.out.below (Go.below_drewN (Below.refl _ _) _)⟩
   ·have hq : ∀ w : World, (binOp .eql 129 (.iface tt (.pointer (some ⟨NN, 0, none⟩))) .nilIface).run Tryz.prog w = .ok (.bool false) w := fun _ => rfl
    go_wp2_with fail
    go_quiet (fail)
    go_wp2
    refine bodyPost_ret (v := .tuple #[.int .i64 ((valP [] : Nat) : Int), .bool false]) (by simp [results, Tryz.results112, go_sem]) rfl ?_
    exact ⟨by rw [HNUM.out]; rfl, by rw [HNUM.out]; exact HMz.out.below (Go.below_drewN (Below.refl _ _) _)⟩
end
end Go.Proofs.YtkcbknfhckomcaaGreatDoor
