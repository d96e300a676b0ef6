/- slices.Clone, slices.Grow, slices.Concat of files. -/
import Derived.Test.YtkdnnhjoeaoihaaTbB
import Derived.Lib.AppendZeros
import Derived.Laws.AppendOwnNone
import Derived.Lib.LazyBuf
namespace Go.Proofs.Ytkdnnhjoeaoihaa
open Go.RowKit Go.Shelf
set_option linter.unusedVariables false
set_option linter.unusedSimpArgs false

theorem infoF : (Try.prog.info? 35).map (fun i => (i.zero, i.size, i.bytes)) = some (some (.agg #[.string ByteArray.empty, .string ByteArray.empty]), 2, 32) := by kernel_rfl
theorem frow_one (xs : List Fl) : ∀ u ∈ frow xs, u.oneCell' = true := by
  intro u hu
  simp only [frow, List.mem_flatMap, fcs, List.mem_cons, List.not_mem_nil, or_false] at hu
  obtain ⟨x, _, rfl | rfl⟩ := hu <;> rfl
theorem Files.news {w : World} {a : Addr} {n cap : Nat} {xs : List Fl} (h : Files w (some a) n cap xs) : ∀ j u, (frow xs)[j]? = some u → w.cell? (a.add j) = some u := by
  intro j u hj
  have hl := h.len
  have hj2 := (List.getElem?_eq_some_iff.1 hj).1
  rw [frow_len] at hj2
  obtain ⟨b, o, e⟩ := h.ptr (by omega)
  obtain rfl : a = ⟨b, o, none⟩ := Option.some.inj e
  obtain ⟨i, hi⟩ : ∃ i, i = j / 2 := ⟨_, rfl⟩
  obtain ⟨x, hx⟩ : ∃ x, xs[i]? = some x := ⟨xs[i]'(by omega), List.getElem?_eq_getElem (by omega)⟩
  obtain ⟨c0, c1⟩ := h.cell b o rfl i x hx
  obtain ⟨e0, e1⟩ := frow_at xs i x hx
  rw [Addr.add_lit]
  rcases (by omega : j = i * 2 ∨ j = i * 2 + 1) with rfl | rfl
  · rw [c0, ← e0, hj]
  · rw [← Nat.add_assoc, c1, ← e1, hj]

theorem eql_nil (a : Option Addr) (l c : Nat) (w : World) : (binOp .eql 22 (.slice a l c) (.slice none 0 0)).run Try.prog w = .ok (.bool a.isNone) w := by
  exact _root_.Go.run_eql_slice_nil w _ _ a l c Try.underlying22

set_option maxRecDepth 100000 in
set_option maxHeartbeats 4000000 in
theorem clone_c (p : Option Addr) (n cap : Nat) (xs : List Fl) (w : World) (hn : n ≤ 100000) (h : Files w p n cap xs) :
    Calls Try.prog 29 #[.slice p n cap] w fun e w' => (∃ v, e = .returned v ∧ w'.ownsRow w.heap.size 35 2 v n (frow xs)) ∧ Below w.heap.size w w' := by
  obtain ⟨i0, hi, hz0, hz1, hz2⟩ := info_parts infoF
  have hlen := h.len
  go_enter Try.func29, Try.ntmps29
  cases p with
  | none =>
    have hq := fun w => eql_nil none 0 0 w
    obtain ⟨rfl, rfl⟩ := h.nil rfl
    obtain rfl : xs = [] := List.eq_nil_of_length_eq_zero hlen
    go_wp2
    go_ret
    exact ⟨⟨_, rfl, World.ownsRow_nil _ _ _ _⟩, Below.refl _ _⟩
  | some a =>
    have hq := fun w => eql_nil (some a) n cap w
    have hnews := (h.alloc (.cells #[] 35)).news
    have hfl := frow_len xs
    rw [hlen] at hfl
    have HN := Lib.hid hnews
    have HL := Lib.hid hfl
    clear hnews hfl h hlen
    have ho := (World.ownsRow_made (base := w.heap.size) (e := 35) (size := 2) w #[] 0 (Nat.le_refl _) (Nat.zero_le _) (by simp))
    go_wp2_with (at_builtin; refine wpList_append_own _ rfl _ _ 22 rfl w.heap.size 35 i0 (.agg #[.string ByteArray.empty, .string ByteArray.empty]) 2 32 Try.underlying22 hi hz0 hz1 hz2 rfl (by decide) _ _ _ rfl ho a n cap (frow xs) rfl HL.out HN.out (frow_one xs) ?qc4 ?qc5 ?qc6 ?_)
    case qc4 => unfold maxLen; omega
    case qc5 => omega
    case qc6 => simp
    intro v' w4 hown1 hgrow hnil
    have hB1 : Below w.heap.size w w4 := ((Below.refl _ w).alloc (Nat.le_refl _) _).grown hgrow (by simp) (fun k hk => (ho.lt k hk).1)
    go_wp2
    go_ret
    exact ⟨⟨_, rfl, by simpa using hown1⟩, hB1⟩

set_option maxRecDepth 100000 in
set_option maxHeartbeats 4000000 in
theorem grow_c (n : Nat) (w : World) (hn : n ≤ 100000) (h1 : 1 ≤ n) :
    Calls Try.prog 36 #[.slice none 0 0, .int .i64 n] w fun e w' => (∃ v, e = .returned v ∧ w'.ownsRow w.heap.size 35 2 v 0 []) ∧ Below w.heap.size w w' := by
  obtain ⟨i0, hi, hz0, hz1, hz2⟩ := info_parts infoF
  have hr := fun ty => Lib.run_append_nil_zeros (P := Try.prog) w 22 3 ty 35 i0 _ .i64 .i64 Try.underlying22 Try.underlying3 hi hz0 n h1 (by rw [hz1]; omega) (by omega) (by rw [hz2]; omega)
  have HR := Lib.hid hr
  clear hr
  have hn0 : (0 : Int) < n := by omega
  go_enter Try.func36, Try.ntmps36
  go_wp2_with (at_builtin; refine Lib.wpList_append_run _ rfl _ _ 22 3 rfl _ _ rfl rfl _ _ (HR.out _) ?_)
  go_ret
  have hg := grownCap_ge w n 0 35
  refine ⟨⟨_, rfl, by simp, .inr ⟨w.heap.size, grownCap w n 0 35, _, rfl, Nat.le_refl _, heap_new w.drew _, Nat.zero_le _, grownCap_le_maxLen w n 0 _ (by unfold maxLen; omega), ?_, by simp⟩⟩, ((Below.refl _ w).drew).alloc (Nat.le_refl _) _⟩
  simp only [Array.size_append, size_zeroCells]
  simp [Value.cells]
  omega

end Go.Proofs.Ytkdnnhjoeaoihaa
