/- The law's its; the reference's Same. -/
import Derived.Test.YtkdnnhjoeaoihaaTbF
import Derived.DeepKeys
namespace Go.Proofs.Ytkdnnhjoeaoihaa
open Go.RowKit Go.Shelf
set_option linter.unusedVariables false
set_option linter.unusedSimpArgs false

theorem infoRF : (Try.prog.info? 54).map (fun i => (i.zero, i.size, i.bytes)) = some (some (.agg #[.string ByteArray.empty, .string ByteArray.empty]), 2, 32) := by kernel_rfl
theorem keyF : Try.prog.keyTypeAt 2 54 = true := by kernel_rfl
theorem cellsF : Try.prog.cellsOf 54 = 2 := by kernel_rfl
theorem cellsStr : Try.prog.cellsOf 9 = 1 := by kernel_rfl
theorem ba_ext (a b : ByteArray) : a.data.toList = b.data.toList ↔ a = b := by
  refine ⟨fun h => ?_, fun h => by rw [h]⟩
  cases a; cases b
  simp only [Array.toList_inj] at h
  rw [h]
def litsF (x : Fl) : List Lit := [.string x.1.data.toList, .string x.2.data.toList]
theorem lits_f (x : Fl) (h1 : x.1.size ≤ maxLen) (h2 : x.2.size ≤ maxLen) : Try.prog.keyLits 3 54 [.string x.1, .string x.2] = some (litsF x) := by
  simp [Program.keyLits, Try.underlying54, Try.underlying9, cellsF, cellsStr, h1, h2, litsF]
theorem formedF (x : Fl) : (Value.agg #[.string x.1, .string x.2]).formed Try.prog 54 = true := by
  simp [Value.formed, Try.underlying54, cellsF]
theorem eq_f (x y : Fl) (h1 : x.1.size ≤ maxLen) (h2 : x.2.size ≤ maxLen) (h3 : y.1.size ≤ maxLen) (h4 : y.2.size ≤ maxLen) (w : World) :
    (Op.equalIn 10000 54 (.agg #[.string x.1, .string x.2]) (.agg #[.string y.1, .string y.2])).run Try.prog w = .ok (decide (x = y)) w := by
  obtain ⟨r, hr, hiff⟩ := run_equalIn_deep 9998 2 _ keyF w 3 3 (.agg #[.string x.1, .string x.2]) (.agg #[.string y.1, .string y.2]) (litsF x) (litsF y) (formedF x) (formedF y) (lits_f x h1 h2) (lits_f y h3 h4)
  rw [hr]
  congr 1
  rw [Bool.eq_iff_iff, hiff, decide_eq_true_iff]
  obtain ⟨a, b⟩ := x
  obtain ⟨c, d⟩ := y
  simp only [litsF, List.cons.injEq, Lit.string.injEq, Prod.mk.injEq, and_true, ba_ext]

theorem frow_snoc (xs : List Fl) (k : Nat) (x : Fl) (h : xs[k]? = some x) : frow (xs.take (k + 1)) = frow (xs.take k) ++ fcs x := by
  obtain ⟨hk, e⟩ := List.getElem?_eq_some_iff.1 h
  rw [List.take_succ_eq_append_getElem hk, e, frow_app]
  simp [frow]

set_option maxRecDepth 100000 in
set_option maxHeartbeats 8000000 in
theorem its_c (p : Option Addr) (n cap : Nat) (xs : List Fl) (w : World) (hn : n ≤ 100000) (h : Files w p n cap xs) :
    Calls Try.prog 13 #[.slice p n cap] w fun e w' => (∃ q cap', e = .returned (.slice q n cap') ∧ Files w' q n cap' xs) ∧ Below w.heap.size w w' := by
  obtain ⟨i0, hi, hz0, hz1, hz2⟩ := info_parts infoRF
  have hlen := h.len
  have hm := h.le
  go_enter Try.func13, Try.ntmps13
  go_wp2
  go_loopw [3, 4] (fun v i wr => ∃ (k : Nat) (v' : Value), v = v' ∧ k ≤ n ∧ i = .int .i64 k ∧ wr.ownsRow w.heap.size 54 2 v' k (frow (xs.take k)) ∧ Below w.heap.size w wr) (fun _ i _ => n - (RowKit.intOf i).toNat)
  case atStart => exact ⟨0, _, rfl, by omega, rfl, World.ownsRow_made w #[] 0 (Nat.le_refl _) (Nat.zero_le _) (by simp), (Below.refl _ w).alloc (Nat.le_refl _) _⟩
  case round =>
    obtain ⟨k, v, rfl, hk, rfl, hown, hB⟩ := hrel
    by_cases hlt : k < n
    · obtain ⟨b, o, rfl⟩ := h.ptr (by omega)
      obtain ⟨x, hxk⟩ : ∃ x, xs[k]? = some x := ⟨xs[k]'(by omega), List.getElem?_eq_getElem (by omega)⟩
      have hsn := frow_snoc xs k x hxk
      obtain ⟨c0, c1⟩ := (h.beside hB).cell b o rfl k x hxk
      have lB := hB.size
      have ex : ∀ j : Nat, (wr.alloc (.cells #[.string x.1, .string x.2] 54)).cell? ⟨wr.heap.size, j, none⟩ = (#[.string x.1, .string x.2] : Array Value)[j]? := fun j => by
        rw [cell_of _ _ _ _ (heap_new wr _)]
      have HS := Lib.hid hsn
      have hklen : (k : Int) < n := by omega
      have HE := Lib.hid ex
      clear hxk h hsn ex
      go_wp2_with (at_builtin; refine wpList_append_own _ rfl _ _ 28 rfl w.heap.size 54 i0 (.agg #[.string ByteArray.empty, .string ByteArray.empty]) 2 32 Try.underlying28 hi hz0 hz1 hz2 rfl (by decide) _ _ _ rfl (hown.alloc _) ⟨wr.heap.size, 0, none⟩ 1 1 (fcs x) rfl rfl ?qc2 ?qc3 ?qc4 ?qc5 ?qc6 ?_)
      case qc2 =>
        intro j u hj
        rw [Addr.add_lit, Nat.zero_add]
        refine (HE.out j).trans ?_
        simpa [fcs] using hj
      case qc3 =>
        intro u hu
        simp [fcs] at hu
        rcases hu with rfl | rfl <;> rfl
      case qc4 => unfold maxLen; omega
      case qc5 => omega
      case qc6 => simp; omega
      intro v' w4 hown1 hgrow hnil
      have hB1 : Below w.heap.size w w4 := (hB.alloc (by omega) _).grown hgrow (by simp; omega) (fun k hk => (hown.lt k hk).1)
      go_wp2
      go_roundw
      case rel => exact ⟨k + 1, v', rfl, by omega, by simp, by rw [HS.out]; exact hown1, hB1⟩
      case measure => (simp [RowKit.intOf]) <;> omega
    · obtain rfl : k = n := by omega
      have hlt1 : ((k : Int) < k) = False := by simp
      have e : xs.take k = xs := by rw [← hlen]; exact List.take_length
      rw [e] at hown
      obtain ⟨q, cap', rfl, hF, _⟩ := files_of_own hown
      clear e
      go_wp2
      go_ret
      exact ⟨⟨_, _, rfl, hF⟩, hB⟩

def okS (x : Fl) : Prop := x.1.size ≤ maxLen ∧ x.2.size ≤ maxLen

set_option maxRecDepth 100000 in
set_option maxHeartbeats 8000000 in
theorem same_c (p q : Option Addr) (n m cap cap' : Nat) (xs ys : List Fl) (r : Bool) (hr : r = true ↔ xs = ys) (w : World) (hx : ∀ x ∈ xs, okS x) (hy : ∀ x ∈ ys, okS x) (h : Files w p n cap xs) (h' : Files w q m cap' ys) :
    Calls Try.prog 20 #[.slice p n cap, .slice q m cap'] w fun e w' => e = .returned (.bool r) ∧ Below w.heap.size w w' := by
  have hlen := h.len
  have hlen' := h'.len
  have hs := h.capm
  have hs' := h'.capm
  have hs1 := h.le
  have hs1' := h'.le
  unfold maxLen at hs hs'
  by_cases hnm : n = m
  · subst hnm
    have HR := Lib.hid hr
    clear hr
    go_enter Try.func20, Try.ntmps20
    go_wp2
    go_loopw [5] (fun i wr => ∃ k : Nat, k ≤ n ∧ i = .int .i64 k ∧ (∀ j, j < k → xs[j]? = ys[j]?) ∧ Below w.heap.size w wr) (fun i _ => n - (RowKit.intOf i).toNat)
    case atStart => exact ⟨0, by omega, rfl, fun j hj => absurd hj (by omega), Below.refl _ _⟩
    case round =>
      obtain ⟨k, hk, rfl, hsame, hB⟩ := hrel
      by_cases hlt : k < n
      · obtain ⟨b, o, rfl⟩ := h.ptr (by omega)
        obtain ⟨b', o', rfl⟩ := h'.ptr (by omega)
        obtain ⟨x, hxk⟩ : ∃ x, xs[k]? = some x := ⟨xs[k]'(by omega), List.getElem?_eq_getElem (by omega)⟩
        obtain ⟨y, hyk⟩ : ∃ y, ys[k]? = some y := ⟨ys[k]'(by omega), List.getElem?_eq_getElem (by omega)⟩
        have ox := hx x (List.mem_of_getElem? hxk)
        have oy := hy y (List.mem_of_getElem? hyk)
        have hq := fun w => eq_f x y ox.1 ox.2 oy.1 oy.2 w
        obtain ⟨d0, d1⟩ := (h.beside hB).cell b o rfl k x hxk
        obtain ⟨e0, e1⟩ := (h'.beside hB).cell b' o' rfl k y hyk
        have lB := hB.size
        have hklen : (k : Int) < n := by omega
        by_cases hxy : x = y
        · rw [decide_eq_true hxy] at hq
          have hstep : ∀ j, j < k + 1 → xs[j]? = ys[j]? := fun j hj => by
            by_cases e : j = k
            · subst e; rw [hxk, hyk, hxy]
            · exact hsame j (by omega)
          have HS := Lib.hid hstep
          clear hxk hyk hx hy ox oy hxy hsame hstep h h' hlen hlen'
          go_wp2_with fail
          go_quiet (fail)
          go_wp2
          go_roundw
          case rel => exact ⟨k + 1, by omega, by simp, HS.out, by first | exact hB | exact below_drewN hB _⟩
          case measure => (simp [RowKit.intOf]) <;> omega
        · have hrf : r = false := by
            cases r with
            | false => rfl
            | true =>
              have := HR.out.1 rfl
              subst this
              rw [hxk] at hyk
              exact absurd (Option.some.inj hyk) hxy
          rw [decide_eq_false hxy] at hq
          clear hxk hyk hx hy ox oy hxy hsame h h' hlen hlen' HR
          subst hrf
          go_wp2_with fail
          go_quiet (fail)
          go_wp2
          go_ret
          exact ⟨rfl, by first | exact hB | exact below_drewN hB _⟩
      · obtain rfl : k = n := by omega
        have hrt : r = true := HR.out.2 (List.ext_getElem? fun i => by
          by_cases hi : i < k
          · exact hsame i hi
          · rw [List.getElem?_eq_none (by omega), List.getElem?_eq_none (by omega)])
        subst hrt
        have hlt1 : ((k : Int) < k) = False := by simp
        clear hsame HR h h' hx hy
        go_wp2
        go_ret
        exact ⟨rfl, hB⟩
  · have hrf : r = false := by
      cases r with
      | false => rfl
      | true =>
        have := hr.1 rfl
        subst this
        omega
    subst hrf
    have hne : ((n : Int) == m) = false := by simp; omega
    clear h h' hr hlen hlen' hx hy
    go_enter Try.func20, Try.ntmps20
    go_wp2
    go_ret
    exact ⟨rfl, Below.refl _ _⟩

end Go.Proofs.Ytkdnnhjoeaoihaa
