/- Lines in memory: rows of a string and a bool; the law's lines; the reference's SameLines. -/
import Derived.Test.YtkdnnhjoeaoihaaTbG
namespace Go.Proofs.Ytkdnnhjoeaoihaa
open Go.RowKit Go.Shelf
set_option linter.unusedVariables false
set_option linter.unusedSimpArgs false

/-- A line: its text, and whether it ends. -/
abbrev Ln := ByteArray × Bool
def lcs (x : Ln) : List Value := [.string x.1, .bool x.2]
def lrow (xs : List Ln) : List Value := xs.flatMap lcs
theorem lrow_len (xs : List Ln) : (lrow xs).length = xs.length * 2 := by
  induction xs with
  | nil => rfl
  | cons a l ih => simp only [lrow, List.flatMap_cons, List.length_append, List.length_cons, lcs, List.length_nil] at *; omega
theorem lrow_app (xs ys : List Ln) : lrow (xs ++ ys) = lrow xs ++ lrow ys := by simp [lrow]
theorem lrow_at (xs : List Ln) (i : Nat) (x : Ln) (h : xs[i]? = some x) : (lrow xs)[i * 2]? = some (.string x.1) ∧ (lrow xs)[i * 2 + 1]? = some (.bool x.2) := by
  obtain ⟨hk, e⟩ := List.getElem?_eq_some_iff.1 h
  have e1 : lrow xs = lrow (xs.take i) ++ (lcs x ++ lrow (xs.drop (i + 1))) := by
    have : xs = xs.take i ++ (x :: xs.drop (i + 1)) := by rw [← e, List.getElem_cons_drop, List.take_append_drop]
    conv => lhs; rw [this]
    simp [lrow]
  have hl : (lrow (xs.take i)).length = i * 2 := by rw [lrow_len, List.length_take]; congr 1; omega
  rw [e1]
  constructor
  · rw [List.getElem?_append_right (by omega), hl]; simp [lcs]
  · rw [List.getElem?_append_right (by omega), hl]; simp [lcs]

/-- The lines xs lie there, to be read. -/
structure Lines (w : World) (p : Option Addr) (n cap : Nat) (xs : List Ln) : Prop where
  len : xs.length = n
  le : n ≤ cap
  capm : cap ≤ maxLen
  nil : p = none → n = 0 ∧ cap = 0
  ptr : 1 ≤ n → ∃ b o, p = some ⟨b, o, none⟩
  lt : 1 ≤ n → ∀ b o, p = some ⟨b, o, none⟩ → b < w.heap.size
  cell : ∀ b o, p = some ⟨b, o, none⟩ → ∀ (i : Nat) (x : Ln), xs[i]? = some x → w.cell? ⟨b, o + i * 2, none⟩ = some (.string x.1) ∧ w.cell? ⟨b, o + i * 2 + 1, none⟩ = some (.bool x.2)
theorem Lines.below {w w' : World} {p : Option Addr} {n cap B : Nat} {xs : List Ln} (h : Lines w p n cap xs) (hB : Below B w w') (hb : 1 ≤ n → ∀ b o, p = some ⟨b, o, none⟩ → b < B) : Lines w' p n cap xs :=
  ⟨h.len, h.le, h.capm, h.nil, h.ptr, fun h1 b o e => Nat.lt_of_lt_of_le (h.lt h1 b o e) hB.size, fun b o e i x hx => by
    have h1 : 1 ≤ n := by have := (List.getElem?_eq_some_iff.1 hx).1; have := h.len; omega
    have := hb h1 b o e
    rw [hB.cell (p := ⟨b, _, none⟩) this, hB.cell (p := ⟨b, _, none⟩) this]
    exact h.cell b o e i x hx⟩
theorem Lines.beside {w w' : World} {p : Option Addr} {n cap : Nat} {xs : List Ln} (h : Lines w p n cap xs) (hB : Below w.heap.size w w') : Lines w' p n cap xs := h.below hB h.lt
theorem Lines.alloc {w : World} {p : Option Addr} {n cap : Nat} {xs : List Ln} (h : Lines w p n cap xs) (o : Obj) : Lines (w.alloc o) p n cap xs := h.beside ((Below.refl _ w).alloc (Nat.le_refl _) o)
theorem Lines.none_ (w : World) : Lines w none 0 0 [] := ⟨rfl, Nat.le_refl _, by unfold maxLen; omega, fun _ => ⟨rfl, rfl⟩, fun h => absurd h (by omega), fun h => absurd h (by omega), fun b o e => by cases e⟩

/-- A row of lines of the call's own, to be read. -/
theorem lines_of_own {w : World} {B n T : Nat} {v : Value} {xs : List Ln} (h : w.ownsRow B T 2 v n (lrow xs)) :
    ∃ p cap, v = .slice p n cap ∧ Lines w p n cap xs ∧ (1 ≤ n → ∃ g, p = some ⟨g, 0, none⟩ ∧ B ≤ g) := by
  have hl : xs.length = n := by have := h.1; rw [lrow_len] at this; omega
  rcases h.2 with ⟨rfl, rfl⟩ | ⟨g, cap, cur, rfl, hg, hb, hc1, hc2, hc, ht⟩
  · obtain rfl : xs = [] := List.eq_nil_of_length_eq_zero hl
    exact ⟨none, 0, rfl, Lines.none_ w, fun h => absurd h (by omega)⟩
  · refine ⟨some ⟨g, 0, none⟩, cap, rfl, ⟨hl, hc1, hc2, (fun e => by cases e), fun _ => ⟨g, 0, rfl⟩, fun _ b o e => ?_, fun b o e i x hx => ?_⟩, fun _ => ⟨g, rfl, hg⟩⟩
    · simp only [Option.some.injEq, Addr.mk.injEq] at e
      obtain ⟨rfl, rfl, _⟩ := e
      exact (Array.getElem?_eq_some_iff.1 hb).1
    · simp only [Option.some.injEq, Addr.mk.injEq] at e
      obtain ⟨rfl, rfl, _⟩ := e
      have hi : i < xs.length := (List.getElem?_eq_some_iff.1 hx).1
      obtain ⟨e1, e2⟩ := lrow_at xs i x hx
      have h1 := h.cellAt (g := g) (i * 2) (by omega)
      have h2 := h.cellAt (g := g) (i * 2 + 1) (by omega)
      rw [Nat.zero_add, h1, h2]
      exact ⟨e1, e2⟩

theorem infoRL : (Try.prog.info? 57).map (fun i => (i.zero, i.size, i.bytes)) = some (some (.agg #[.string ByteArray.empty, .bool false]), 2, 24) := by kernel_rfl
theorem keyL : Try.prog.keyTypeAt 2 57 = true := by kernel_rfl
theorem cellsL : Try.prog.cellsOf 57 = 2 := by kernel_rfl
theorem cellsBool : Try.prog.cellsOf 4 = 1 := by kernel_rfl
theorem cellsStrL : Try.prog.cellsOf 9 = 1 := by kernel_rfl
def litsL (x : Ln) : List Lit := [.string x.1.data.toList, .bool x.2]
theorem lits_l (x : Ln) (h1 : x.1.size ≤ maxLen) : Try.prog.keyLits 3 57 [.string x.1, .bool x.2] = some (litsL x) := by
  simp [Program.keyLits, Try.underlying57, Try.underlying9, Try.underlying4, cellsBool, cellsL, cellsStrL, h1, litsL]
theorem formedL (x : Ln) : (Value.agg #[.string x.1, .bool x.2]).formed Try.prog 57 = true := by
  simp [Value.formed, Try.underlying57, cellsL]
theorem eq_l (x y : Ln) (h1 : x.1.size ≤ maxLen) (h3 : y.1.size ≤ maxLen) (w : World) :
    (Op.equalIn 10000 57 (.agg #[.string x.1, .bool x.2]) (.agg #[.string y.1, .bool y.2])).run Try.prog w = .ok (decide (x = y)) w := by
  obtain ⟨r, hr, hiff⟩ := run_equalIn_deep 9998 2 _ keyL w 3 3 (.agg #[.string x.1, .bool x.2]) (.agg #[.string y.1, .bool y.2]) (litsL x) (litsL y) (formedL x) (formedL y) (lits_l x h1) (lits_l y h3)
  rw [hr]
  congr 1
  rw [Bool.eq_iff_iff, hiff, decide_eq_true_iff]
  obtain ⟨a, b⟩ := x
  obtain ⟨c, d⟩ := y
  simp only [litsL, List.cons.injEq, Lit.string.injEq, Lit.bool.injEq, Prod.mk.injEq, and_true, ba_ext]

theorem lrow_snoc (xs : List Ln) (k : Nat) (x : Ln) (h : xs[k]? = some x) : lrow (xs.take (k + 1)) = lrow (xs.take k) ++ lcs x := by
  obtain ⟨hk, e⟩ := List.getElem?_eq_some_iff.1 h
  rw [List.take_succ_eq_append_getElem hk, e, lrow_app]
  simp [lrow]

set_option maxRecDepth 100000 in
set_option maxHeartbeats 8000000 in
theorem lines_c (p : Option Addr) (n cap : Nat) (xs : List Ln) (w : World) (hn : n ≤ 100000) (h : Lines w p n cap xs) :
    Calls Try.prog 22 #[.slice p n cap] w fun e w' => (∃ q cap', e = .returned (.slice q n cap') ∧ Lines w' q n cap' xs) ∧ Below w.heap.size w w' := by
  obtain ⟨i0, hi, hz0, hz1, hz2⟩ := info_parts infoRL
  have hlen := h.len
  have hm := h.le
  go_enter Try.func22, Try.ntmps22
  go_wp2
  go_loopw [3, 4] (fun v i wr => ∃ (k : Nat) (v' : Value), v = v' ∧ k ≤ n ∧ i = .int .i64 k ∧ wr.ownsRow w.heap.size 57 2 v' k (lrow (xs.take k)) ∧ Below w.heap.size w wr) (fun _ i _ => n - (RowKit.intOf i).toNat)
  case atStart => exact ⟨0, _, rfl, by omega, rfl, World.ownsRow_made w #[] 0 (Nat.le_refl _) (Nat.zero_le _) (by simp), (Below.refl _ w).alloc (Nat.le_refl _) _⟩
  case round =>
    obtain ⟨k, v, rfl, hk, rfl, hown, hB⟩ := hrel
    by_cases hlt : k < n
    · obtain ⟨b, o, rfl⟩ := h.ptr (by omega)
      obtain ⟨x, hxk⟩ : ∃ x, xs[k]? = some x := ⟨xs[k]'(by omega), List.getElem?_eq_getElem (by omega)⟩
      have hsn := lrow_snoc xs k x hxk
      obtain ⟨c0, c1⟩ := (h.beside hB).cell b o rfl k x hxk
      have lB := hB.size
      have ex : ∀ j : Nat, (wr.alloc (.cells #[.string x.1, .bool x.2] 57)).cell? ⟨wr.heap.size, j, none⟩ = (#[.string x.1, .bool x.2] : Array Value)[j]? := fun j => by
        rw [cell_of _ _ _ _ (heap_new wr _)]
      have HS := Lib.hid hsn
      have hklen : (k : Int) < n := by omega
      have HE := Lib.hid ex
      clear hxk h hsn ex
      go_wp2_with (at_builtin; refine wpList_append_own _ rfl _ _ 44 rfl w.heap.size 57 i0 (.agg #[.string ByteArray.empty, .bool false]) 2 24 Try.underlying44 hi hz0 hz1 hz2 rfl (by decide) _ _ _ rfl (hown.alloc _) ⟨wr.heap.size, 0, none⟩ 1 1 (lcs x) rfl rfl ?qc2 ?qc3 ?qc4 ?qc5 ?qc6 ?_)
      case qc2 =>
        intro j u hj
        rw [Addr.add_lit, Nat.zero_add]
        refine (HE.out j).trans ?_
        simpa [lcs] using hj
      case qc3 =>
        intro u hu
        simp [lcs] at hu
        rcases hu with rfl | rfl <;> rfl
      case qc4 => unfold maxLen; omega
      case qc5 => omega
      case qc6 => simp; omega
      intro v' w4 hown1 hgrow hnil
      have hB1 : Below w.heap.size w w4 := (hB.alloc (by omega) _).grown hgrow (by simp; omega) (fun k hk => (hown.lt k hk).1)
      go_wp2
      go_roundw
      case rel => exact ⟨k + 1, v', rfl, by omega, by simp, by rw [HS.out]; exact hown1, hB1⟩
      case measure => (simp [RowKit.intOf]) <;> omega
    · obtain rfl : k = n := by omega
      have hlt1 : ((k : Int) < k) = False := by simp
      have e : xs.take k = xs := by rw [← hlen]; exact List.take_length
      rw [e] at hown
      obtain ⟨q, cap', rfl, hF, _⟩ := lines_of_own hown
      clear e
      go_wp2
      go_ret
      exact ⟨⟨_, _, rfl, hF⟩, hB⟩

def okSl (x : Ln) : Prop := x.1.size ≤ maxLen

set_option maxRecDepth 100000 in
set_option maxHeartbeats 8000000 in
theorem samel_c (p q : Option Addr) (n m cap cap' : Nat) (xs ys : List Ln) (r : Bool) (hr : r = true ↔ xs = ys) (w : World) (hx : ∀ x ∈ xs, okSl x) (hy : ∀ x ∈ ys, okSl x) (h : Lines w p n cap xs) (h' : Lines w q m cap' ys) :
    Calls Try.prog 21 #[.slice p n cap, .slice q m cap'] w fun e w' => e = .returned (.bool r) ∧ Below w.heap.size w w' := by
  have hlen := h.len
  have hlen' := h'.len
  have hs := h.capm
  have hs' := h'.capm
  have hs1 := h.le
  have hs1' := h'.le
  unfold maxLen at hs hs'
  by_cases hnm : n = m
  · subst hnm
    have HR := Lib.hid hr
    clear hr
    go_enter Try.func21, Try.ntmps21
    go_wp2
    go_loopw [5] (fun i wr => ∃ k : Nat, k ≤ n ∧ i = .int .i64 k ∧ (∀ j, j < k → xs[j]? = ys[j]?) ∧ Below w.heap.size w wr) (fun i _ => n - (RowKit.intOf i).toNat)
    case atStart => exact ⟨0, by omega, rfl, fun j hj => absurd hj (by omega), Below.refl _ _⟩
    case round =>
      obtain ⟨k, hk, rfl, hsame, hB⟩ := hrel
      by_cases hlt : k < n
      · obtain ⟨b, o, rfl⟩ := h.ptr (by omega)
        obtain ⟨b', o', rfl⟩ := h'.ptr (by omega)
        obtain ⟨x, hxk⟩ : ∃ x, xs[k]? = some x := ⟨xs[k]'(by omega), List.getElem?_eq_getElem (by omega)⟩
        obtain ⟨y, hyk⟩ : ∃ y, ys[k]? = some y := ⟨ys[k]'(by omega), List.getElem?_eq_getElem (by omega)⟩
        have ox := hx x (List.mem_of_getElem? hxk)
        have oy := hy y (List.mem_of_getElem? hyk)
        have hq := fun w => eq_l x y ox oy w
        obtain ⟨d0, d1⟩ := (h.beside hB).cell b o rfl k x hxk
        obtain ⟨e0, e1⟩ := (h'.beside hB).cell b' o' rfl k y hyk
        have lB := hB.size
        have hklen : (k : Int) < n := by omega
        by_cases hxy : x = y
        · rw [decide_eq_true hxy] at hq
          have hstep : ∀ j, j < k + 1 → xs[j]? = ys[j]? := fun j hj => by
            by_cases e : j = k
            · subst e; rw [hxk, hyk, hxy]
            · exact hsame j (by omega)
          have HS := Lib.hid hstep
          clear hxk hyk hx hy ox oy hxy hsame hstep h h' hlen hlen'
          go_wp2_with fail
          go_quiet (fail)
          go_wp2
          go_roundw
          case rel => exact ⟨k + 1, by omega, by simp, HS.out, by first | exact hB | exact below_drewN hB _⟩
          case measure => (simp [RowKit.intOf]) <;> omega
        · have hrf : r = false := by
            cases r with
            | false => rfl
            | true =>
              have := HR.out.1 rfl
              subst this
              rw [hxk] at hyk
              exact absurd (Option.some.inj hyk) hxy
          rw [decide_eq_false hxy] at hq
          clear hxk hyk hx hy ox oy hxy hsame h h' hlen hlen' HR
          subst hrf
          go_wp2_with fail
          go_quiet (fail)
          go_wp2
          go_ret
          exact ⟨rfl, by first | exact hB | exact below_drewN hB _⟩
      · obtain rfl : k = n := by omega
        have hrt : r = true := HR.out.2 (List.ext_getElem? fun i => by
          by_cases hi : i < k
          · exact hsame i hi
          · rw [List.getElem?_eq_none (by omega), List.getElem?_eq_none (by omega)])
        subst hrt
        have hlt1 : ((k : Int) < k) = False := by simp
        clear hsame HR h h' hx hy
        go_wp2
        go_ret
        exact ⟨rfl, hB⟩
  · have hrf : r = false := by
      cases r with
      | false => rfl
      | true =>
        have := hr.1 rfl
        subst this
        omega
    subst hrf
    have hne : ((n : Int) == m) = false := by simp; omega
    clear h h' hr hlen hlen' hx hy
    go_enter Try.func21, Try.ntmps21
    go_wp2
    go_ret
    exact ⟨rfl, Below.refl _ _⟩

theorem own_lenl {w : World} {B T m : Nat} {v : Value} {xs : List Ln} (h : w.ownsRow B T 2 v m (lrow xs)) : xs.length = m := by
  have := h.1; rw [lrow_len] at this; omega

/-- append(s, y), y a file of the reference's. -/
theorem wp_app2 {ops : Array Oper} {rest : List Oper} {o : Oper} {a : Act} {Q : Exit → Act → World → Prop} (hgd : o.guard = none) (s x : Operand)
    (ho : o.op = .call { callee := .builtin .append, args := #[s, x], argTypes := #[44, 44] })
    (w W : World) (ys : List Ln) (y : Ln) {v : Value} {m : Nat} (hown : W.ownsRow w.heap.size 57 2 v m (lrow ys)) (hs : a.eval s = v) (hx : a.eval x = .slice (some ⟨W.heap.size, 0, none⟩) 1 1)
    (hB : Below w.heap.size w W) (hl : m ≤ 100000)
    (h : ∀ v' w', w'.ownsRow w.heap.size 57 2 v' (m + 1) (lrow (ys ++ [y])) → Below w.heap.size w w' → wpList Try.prog ops Q rest (a.put o.dst v') w') :
    wpList Try.prog ops Q (o :: rest) a (W.alloc (.cells #[.string y.1, .bool y.2] 57)) := by
  obtain ⟨i0, hi, hz0, hz1, hz2⟩ := info_parts infoRL
  have lB := hB.size
  refine wpList_append_own _ hgd s x _ ho w.heap.size 57 i0 (.agg #[.string ByteArray.empty, .bool false]) 2 24 Try.underlying44 hi hz0 hz1 hz2 rfl (by decide) v m (lrow ys) hs (hown.alloc _) ⟨W.heap.size, 0, none⟩ 1 1 (lcs y) hx rfl ?_ ?_ ?_ ?_ ?_ ?_
  · intro j u hj
    rw [Addr.add_lit, Nat.zero_add, cell_of _ _ _ _ (heap_new W _)]
    simpa [lcs] using hj
  · intro u hu
    simp [lcs] at hu
    rcases hu with rfl | rfl <;> rfl
  · unfold maxLen; omega
  · omega
  · rw [World.size_alloc]; omega
  · intro v' w' h1 h2 h3
    refine h v' w' ?_ ?_
    · rw [lrow_app]
      have : lrow [y] = lcs y := by simp [lrow]
      rw [this]; exact h1
    · exact (hB.alloc lB _).grown h2 (by rw [World.size_alloc]; omega) (fun k hk => (hown.lt k hk).1)


end Go.Proofs.Ytkdnnhjoeaoihaa
