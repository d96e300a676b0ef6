/- The reference's Put and Add. -/
import Derived.Test.YtkdnnhjoeaoihaaTbG
namespace Go.Proofs.Ytkdnnhjoeaoihaa
open Go.RowKit Go.Shelf
set_option linter.unusedVariables false
set_option linter.unusedSimpArgs false

theorem own_len {w : World} {B T m : Nat} {v : Value} {xs : List Fl} (h : w.ownsRow B T 2 v m (frow xs)) : xs.length = m := by
  have := h.1; rw [frow_len] at this; omega

/-- append(s, y), y a file of the reference's. -/
theorem wp_app1 {ops : Array Oper} {rest : List Oper} {o : Oper} {a : Act} {Q : Exit → Act → World → Prop} (hgd : o.guard = none) (s x : Operand)
    (ho : o.op = .call { callee := .builtin .append, args := #[s, x], argTypes := #[28, 28] })
    (w W : World) (ys : List Fl) (y : Fl) {v : Value} {m : Nat} (hown : W.ownsRow w.heap.size 54 2 v m (frow ys)) (hs : a.eval s = v) (hx : a.eval x = .slice (some ⟨W.heap.size, 0, none⟩) 1 1)
    (hB : Below w.heap.size w W) (hl : m ≤ 100000)
    (h : ∀ v' w', w'.ownsRow w.heap.size 54 2 v' (m + 1) (frow (ys ++ [y])) → Below w.heap.size w w' → wpList Try.prog ops Q rest (a.put o.dst v') w') :
    wpList Try.prog ops Q (o :: rest) a (W.alloc (.cells #[.string y.1, .string y.2] 54)) := by
  obtain ⟨i0, hi, hz0, hz1, hz2⟩ := info_parts infoRF
  have lB := hB.size
  refine wpList_append_own _ hgd s x _ ho w.heap.size 54 i0 (.agg #[.string ByteArray.empty, .string ByteArray.empty]) 2 32 Try.underlying28 hi hz0 hz1 hz2 rfl (by decide) v m (frow ys) hs (hown.alloc _) ⟨W.heap.size, 0, none⟩ 1 1 (fcs y) hx rfl ?_ ?_ ?_ ?_ ?_ ?_
  · intro j u hj
    rw [Addr.add_lit, Nat.zero_add, cell_of _ _ _ _ (heap_new W _)]
    simpa [fcs] using hj
  · intro u hu
    simp [fcs] at hu
    rcases hu with rfl | rfl <;> rfl
  · unfold maxLen; omega
  · omega
  · rw [World.size_alloc]; omega
  · intro v' w' h1 h2 h3
    refine h v' w' ?_ ?_
    · rw [frow_app]
      have : frow [y] = fcs y := by simp [frow]
      rw [this]; exact h1
    · exact (hB.alloc lB _).grown h2 (by rw [World.size_alloc]; omega) (fun k hk => (hown.lt k hk).1)

def rstep (nm dt : ByteArray) (st : List Fl × Bool) (x : Fl) : List Fl × Bool :=
  ((if !st.2 && notB nm x then st.1 ++ [(nm, dt)] else st.1) ++ (if isN nm x then [] else [x]), st.2 || notB nm x)
def rputF (xs : List Fl) (nm dt : ByteArray) : List Fl :=
  if nm.toList = [] then xs else
    if (xs.foldl (rstep nm dt) ([], false)).2 then (xs.foldl (rstep nm dt) ([], false)).1 else (xs.foldl (rstep nm dt) ([], false)).1 ++ [(nm, dt)]
theorem foldl_snoc {α β : Type} (f : β → α → β) (b : β) (xs : List α) (k : Nat) (x : α) (h : xs[k]? = some x) : (xs.take (k + 1)).foldl f b = f ((xs.take k).foldl f b) x := by
  obtain ⟨hk, e⟩ := List.getElem?_eq_some_iff.1 h
  rw [List.take_succ_eq_append_getElem hk, e, List.foldl_append]
  rfl
theorem rstep_len (nm dt : ByteArray) : ∀ (xs : List Fl) (st : List Fl × Bool), (xs.foldl (rstep nm dt) st).1.length ≤ st.1.length + 2 * xs.length
  | [], st => by simp
  | x :: l, st => by
    have ih := rstep_len nm dt l (rstep nm dt st x)
    have : (rstep nm dt st x).1.length ≤ st.1.length + 2 := by
      unfold rstep
      simp only [List.length_append]
      split <;> split <;> simp
    simp only [List.foldl_cons, List.length_cons]
    omega

set_option maxRecDepth 100000 in
set_option maxHeartbeats 8000000 in
theorem rput_c (p : Option Addr) (n cap : Nat) (xs : List Fl) (nm dt : ByteArray) (w : World) (hn : n ≤ 10000) (h : Files w p n cap xs) :
    Calls Try.prog 19 #[.slice p n cap, .string nm, .string dt] w fun e w' => (∃ q m cap', e = .returned (.slice q m cap') ∧ Files w' q m cap' (rputF xs nm dt)) ∧ Below w.heap.size w w' := by
  have hlen := h.len
  have hm := h.le
  have hm2 := h.capm
  unfold maxLen at hm2
  by_cases he : nm.toList = []
  · have hp : rputF xs nm dt = xs := by unfold rputF; rw [if_pos he]
    rw [hp]
    have he2 : (!nm.toList.isEmpty) = false := by rw [he]; rfl
    have he3 : nm.toList.isEmpty = true := by rw [he]; rfl
    clear hp
    go_enter Try.func19, Try.ntmps19
    go_wp2
    go_ret
    exact ⟨⟨_, _, _, rfl, h⟩, Below.refl _ _⟩
  · have he2 : (!nm.toList.isEmpty) = true := by simpa using he
    have he3 : nm.toList.isEmpty = false := by simpa using he
    have hp : rputF xs nm dt = if (xs.foldl (rstep nm dt) ([], false)).2 then (xs.foldl (rstep nm dt) ([], false)).1 else (xs.foldl (rstep nm dt) ([], false)).1 ++ [(nm, dt)] := by unfold rputF; rw [if_neg he]
    obtain ⟨R, hR⟩ : ∃ R, R = rputF xs nm dt := ⟨_, rfl⟩
    rw [← hR]
    rw [hp] at hR
    have HR := Lib.hid hR
    clear hp hR
    have HL := Lib.hid (fun k (hk : k ≤ n) => (show ((xs.take k).foldl (rstep nm dt) ([], false)).1.length ≤ 20000 from by have := rstep_len nm dt (xs.take k) ([], false); rw [List.length_take] at this; simp only [List.length_nil] at this; omega))
    go_enter Try.func19, Try.ntmps19
    go_wp2
    go_loopw [7, 8, 9] (fun v d i wr => ∃ (k m : Nat) (v' : Value) (st : List Fl × Bool), v = v' ∧ k ≤ n ∧ i = .int .i64 k ∧ st = (xs.take k).foldl (rstep nm dt) ([], false) ∧ d = .bool st.2 ∧ wr.ownsRow w.heap.size 54 2 v' m (frow st.1) ∧ Below w.heap.size w wr) (fun _ _ i _ => n - (RowKit.intOf i).toNat)
    case atStart => exact ⟨0, 0, _, ([], false), rfl, by omega, rfl, rfl, rfl, World.ownsRow_made w #[] 0 (Nat.le_refl _) (Nat.zero_le _) (by simp), (Below.refl _ w).alloc (Nat.le_refl _) _⟩
    case round =>
      obtain ⟨k, m, v, st, rfl, hk, rfl, hst, rfl, hown, hB⟩ := hrel
      by_cases hlt : k < n
      · obtain ⟨b, o, rfl⟩ := h.ptr (by omega)
        obtain ⟨x, hxk⟩ : ∃ x, xs[k]? = some x := ⟨xs[k]'(by omega), List.getElem?_eq_getElem (by omega)⟩
        have hsn := foldl_snoc (rstep nm dt) ([], false) xs k x hxk
        rw [← hst] at hsn
        have hF := h.beside hB
        obtain ⟨c0, c1⟩ := hF.cell b o rfl k x hxk
        have hlb := hF.lt (by omega) b o rfl
        have hlw := h.lt (by omega) b o rfl
        have hle : m ≤ 20000 := by rw [← own_len hown, hst]; exact HL.out k hk
        have lB := hB.size
        have HS := Lib.hid hsn
        have hki : (k : Int) < n := by omega
        clear hxk hsn hst hF
        obtain ⟨out, din⟩ := st
        simp only at hown hle HS ⊢
        have hcell : ∀ W', Below w.heap.size w W' → W'.cell? ⟨b, o + k * 2, none⟩ = some (.string x.1) ∧ W'.cell? ⟨b, o + k * 2 + 1, none⟩ = some (.string x.2) := fun W' hW => by
          have := hB.cell (p := ⟨b, o + k * 2, none⟩) hlw
          have h2 := hB.cell (p := ⟨b, o + k * 2 + 1, none⟩) hlw
          rw [hW.cell (p := ⟨b, o + k * 2, none⟩) hlw, hW.cell (p := ⟨b, o + k * 2 + 1, none⟩) hlw, ← this, ← h2]
          exact ⟨c0, c1⟩
        have HC := Lib.hid hcell
        clear hcell h
        cases din
        · cases hb : (!Op.bytesLess x.1.toList nm.toList)
          · cases hq : (x.1.toList == nm.toList)
            · have hqn : (x.1.toList != nm.toList) = true := by simp [bne, hq]
              go_wp2_with (at_builtin; refine wp_app1 rfl _ _ rfl w wr out x hown rfl rfl hB (by omega) ?_)
              intro v2 w2 hown2 hB2
              go_wp2
              go_roundw
              case rel => exact ⟨k + 1, _, _, ((out ++ [x]), false), rfl, by omega, by simp, by rw [HS.out]; simp [rstep, notB, isN, hb, hq], rfl, hown2, hB2⟩
              case measure => (simp [RowKit.intOf]) <;> omega
            · have hqn : (x.1.toList != nm.toList) = false := by simp [bne, hq]
              go_wp2
              go_roundw
              case rel => exact ⟨k + 1, _, _, (out, false), rfl, by omega, by simp, by rw [HS.out]; simp [rstep, notB, isN, hb, hq], rfl, hown, hB⟩
              case measure => (simp [RowKit.intOf]) <;> omega
          · cases hq : (x.1.toList == nm.toList)
            · have hqn : (x.1.toList != nm.toList) = true := by simp [bne, hq]
              go_wp2_with (at_builtin; refine wp_app1 rfl _ _ rfl w wr out (nm, dt) hown rfl rfl hB (by omega) ?_)
              intro v1 w1 hown1 hB1
              obtain ⟨e0, e1⟩ := HC.out w1 hB1
              go_wp2_with (at_builtin; refine wp_app1 rfl _ _ rfl w w1 (out ++ [(nm, dt)]) x hown1 rfl rfl hB1 (by omega) ?_)
              intro v2 w2 hown2 hB2
              go_wp2
              go_roundw
              case rel => exact ⟨k + 1, _, _, (out ++ [(nm, dt), x], true), rfl, by omega, by simp, by rw [HS.out]; simp [rstep, notB, isN, hb, hq], rfl, hown2, hB2⟩
              case measure => (simp [RowKit.intOf]) <;> omega
            · have hqn : (x.1.toList != nm.toList) = false := by simp [bne, hq]
              go_wp2_with (at_builtin; refine wp_app1 rfl _ _ rfl w wr out (nm, dt) hown rfl rfl hB (by omega) ?_)
              intro v1 w1 hown1 hB1
              obtain ⟨e0, e1⟩ := HC.out w1 hB1
              go_wp2
              go_roundw
              case rel => exact ⟨k + 1, _, _, ((out ++ [(nm, dt)]), true), rfl, by omega, by simp, by rw [HS.out]; simp [rstep, notB, isN, hb, hq], rfl, hown1, hB1⟩
              case measure => (simp [RowKit.intOf]) <;> omega
        · cases hb : (!Op.bytesLess x.1.toList nm.toList)
          · cases hq : (x.1.toList == nm.toList)
            · have hqn : (x.1.toList != nm.toList) = true := by simp [bne, hq]
              go_wp2_with (at_builtin; refine wp_app1 rfl _ _ rfl w wr out x hown rfl rfl hB (by omega) ?_)
              intro v2 w2 hown2 hB2
              go_wp2
              go_roundw
              case rel => exact ⟨k + 1, _, _, ((out ++ [x]), true), rfl, by omega, by simp, by rw [HS.out]; simp [rstep, notB, isN, hb, hq], rfl, hown2, hB2⟩
              case measure => (simp [RowKit.intOf]) <;> omega
            · have hqn : (x.1.toList != nm.toList) = false := by simp [bne, hq]
              go_wp2
              go_roundw
              case rel => exact ⟨k + 1, _, _, (out, true), rfl, by omega, by simp, by rw [HS.out]; simp [rstep, notB, isN, hb, hq], rfl, hown, hB⟩
              case measure => (simp [RowKit.intOf]) <;> omega
          · cases hq : (x.1.toList == nm.toList)
            · have hqn : (x.1.toList != nm.toList) = true := by simp [bne, hq]
              go_wp2_with (at_builtin; refine wp_app1 rfl _ _ rfl w wr out x hown rfl rfl hB (by omega) ?_)
              intro v2 w2 hown2 hB2
              go_wp2
              go_roundw
              case rel => exact ⟨k + 1, _, _, ((out ++ [x]), true), rfl, by omega, by simp, by rw [HS.out]; simp [rstep, notB, isN, hb, hq], rfl, hown2, hB2⟩
              case measure => (simp [RowKit.intOf]) <;> omega
            · have hqn : (x.1.toList != nm.toList) = false := by simp [bne, hq]
              go_wp2
              go_roundw
              case rel => exact ⟨k + 1, _, _, (out, true), rfl, by omega, by simp, by rw [HS.out]; simp [rstep, notB, isN, hb, hq], rfl, hown, hB⟩
              case measure => (simp [RowKit.intOf]) <;> omega
      · obtain rfl : k = n := by omega
        have hlt1 : ((k : Int) < k) = False := by simp
        have hle : m ≤ 20000 := by rw [← own_len hown, hst]; exact HL.out k hk
        have hst2 : st = xs.foldl (rstep nm dt) ([], false) := by rw [hst, ← hlen, List.take_length]
        have HST := Lib.hid hst2
        obtain ⟨out, din⟩ := st
        simp only at hown hle ⊢
        clear hst hst2
        cases din
        · go_wp2_with (at_builtin; refine wp_app1 rfl _ _ rfl w wr out (nm, dt) hown rfl rfl hB (by omega) ?_)
          intro v1 w1 hown1 hB1
          obtain ⟨q, cap', rfl, hF, _⟩ := files_of_own hown1
          go_wp2
          go_ret
          exact ⟨⟨_, _, _, rfl, by rw [HR.out, ← HST.out]; exact hF⟩, hB1⟩
        · obtain ⟨q, cap', rfl, hF, _⟩ := files_of_own hown
          go_wp2
          go_ret
          exact ⟨⟨_, _, _, rfl, by rw [HR.out, ← HST.out]; exact hF⟩, hB⟩

def raddF (xs : List Fl) (nm dt : ByteArray) : List Fl := rputF xs nm ((getF xs nm).1 ++ dt)

set_option maxRecDepth 100000 in
set_option maxHeartbeats 4000000 in
theorem radd_c (p : Option Addr) (n cap : Nat) (xs : List Fl) (nm dt : ByteArray) (w : World) (hn : n ≤ 10000) (hs : ∀ x ∈ xs, x.2.size ≤ 100000000) (hd : dt.size ≤ 100000000) (h : Files w p n cap xs) :
    Calls Try.prog 17 #[.slice p n cap, .string nm, .string dt] w fun e w' => (∃ q m cap', e = .returned (.slice q m cap') ∧ Files w' q m cap' (raddF xs nm dt)) ∧ Below w.heap.size w w' := by
  have hg := getF_size hs nm
  unfold raddF
  obtain ⟨g, hgd⟩ : ∃ g, g = getF xs nm := ⟨_, rfl⟩
  have HG := Lib.hid (rget_c p n cap xs nm w h)
  rw [← hgd] at hg HG ⊢
  obtain ⟨g1, g2⟩ := g
  simp only at hg HG ⊢
  have hb3 : (9223372036854775807 < g1.size + dt.size) = False := by simp; omega
  have hb2 : (9223372036854775807 < (g1.size : Int) + (dt.size : Int)) = False := by simp; omega
  have HP := Lib.hid (rput_c p n cap xs nm (g1 ++ dt) w hn h)
  clear hgd hs
  go_enter Try.func17, Try.ntmps17
  go_wp2_with fail
  refine HG.out.mono ?_
  rintro e w1 ⟨rfl, rfl⟩
  go_wp2_with fail
  refine HP.out.mono ?_
  rintro e w2 ⟨⟨q, m, cap', rfl, hF⟩, hB2⟩
  go_wp2
  go_ret
  exact ⟨⟨_, _, _, rfl, hF⟩, hB2⟩

end Go.Proofs.Ytkdnnhjoeaoihaa
