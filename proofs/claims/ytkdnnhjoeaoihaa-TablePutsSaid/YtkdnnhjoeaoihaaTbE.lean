/- Put, Add. -/
import Derived.Test.YtkdnnhjoeaoihaaTbD
namespace Go.Proofs.Ytkdnnhjoeaoihaa
open Go.RowKit Go.Shelf
set_option linter.unusedVariables false
set_option linter.unusedSimpArgs false

theorem Files.take {w : World} {p : Option Addr} {n cap : Nat} {xs : List Fl} (h : Files w p n cap xs) (k : Nat) (hk : k ≤ n) : Files w p k cap (xs.take k) := by
  have hl := h.len
  refine ⟨by rw [List.length_take]; omega, by have := h.le; omega, h.capm, fun e => ?_, fun h1 => h.ptr (by omega), fun h1 => h.lt (by omega), fun b o e i x hx => h.cell b o e i x ?_⟩
  · obtain ⟨e1, e2⟩ := h.nil e; exact ⟨by omega, e2⟩
  · rw [List.getElem?_take] at hx
    split at hx
    · exact hx
    · cases hx
/-- What lies behind the first k, from its own place on. -/
theorem Files.drop {w : World} {a a' : Addr} {n cap : Nat} {xs : List Fl} (h : Files w (some a) n cap xs) (k : Nat) (hk : k ≤ n) (hq : k < cap → a' = a.add (k * 2)) : Files w (some a') (n - k) (cap - k) (xs.drop k) := by
  have hl := h.len
  have hm := h.le
  have key : 1 ≤ n - k → ∃ b o, a = ⟨b, o, none⟩ ∧ a' = ⟨b, o + k * 2, none⟩ := fun h1 => by
    obtain ⟨b, o, e⟩ := h.ptr (by omega)
    obtain rfl := Option.some.inj e
    exact ⟨b, o, rfl, by rw [hq (by omega), Addr.add_lit]⟩
  refine ⟨by rw [List.length_drop]; omega, by omega, by have := h.capm; omega, (fun e => by cases e), fun h1 => ?_, fun h1 b' o' e => ?_, fun b' o' e i x hx => ?_⟩
  · obtain ⟨b, o, _, e⟩ := key h1; exact ⟨b, _, by rw [e]⟩
  · obtain ⟨b, o, e1, e2⟩ := key h1
    rw [e2] at e
    simp only [Option.some.injEq, Addr.mk.injEq] at e
    obtain ⟨rfl, rfl, _⟩ := e
    exact h.lt (by omega) b o (by rw [e1])
  · have hi := (List.getElem?_eq_some_iff.1 hx).1
    rw [List.length_drop] at hi
    obtain ⟨b, o, e1, e2⟩ := key (by omega)
    rw [e2] at e
    simp only [Option.some.injEq, Addr.mk.injEq] at e
    obtain ⟨rfl, rfl, _⟩ := e
    rw [List.getElem?_drop] at hx
    have := h.cell b o (by rw [e1]) (k + i) x hx
    rw [show o + k * 2 + i * 2 = o + (k + i) * 2 by omega]
    exact this

/-- Whether the file at that place has that name. -/
def atN (xs : List Fl) (f : Nat) (nm : ByteArray) : Bool := match xs[f]? with
  | some x => isN nm x
  | none => false
def putF (xs : List Fl) (nm dt : ByteArray) : List Fl :=
  if nm.toList = [] then xs else
    xs.take (xs.findIdx (notB nm)) ++ [(nm, dt)] ++ xs.drop (if atN xs (xs.findIdx (notB nm)) nm then xs.findIdx (notB nm) + 1 else xs.findIdx (notB nm))

theorem own_base {w : World} {B B' T n s : Nat} {v : Value} {xs : List Value} (h : w.ownsRow B T s v n xs) (hB : B' ≤ B) : w.ownsRow B' T s v n xs :=
  ⟨h.1, h.2.imp id fun ⟨g, c, cur, h1, h2, h3⟩ => ⟨g, c, cur, h1, Nat.le_trans hB h2, h3⟩⟩
theorem below_drewN {B : Nat} {w w' : World} (h : Below B w w') : ∀ k, Below B w (w'.drewN k)
  | 0 => h
  | k + 1 => (below_drewN h k).drew

theorem Files.one (W : World) (nm dt : ByteArray) (T : Nat) : Files (W.alloc (.cells #[.string nm, .string dt] T)) (some ⟨W.heap.size, 0, none⟩) 1 1 [(nm, dt)] := by
  refine ⟨rfl, Nat.le_refl _, by unfold maxLen; omega, (fun e => by cases e), fun _ => ⟨_, _, rfl⟩, fun _ b o e => ?_, fun b o e i x hx => ?_⟩
  · simp only [Option.some.injEq, Addr.mk.injEq] at e
    obtain ⟨rfl, rfl, _⟩ := e
    rw [World.size_alloc]; omega
  · simp only [Option.some.injEq, Addr.mk.injEq] at e
    obtain ⟨rfl, rfl, _⟩ := e
    have hi := (List.getElem?_eq_some_iff.1 hx).1
    obtain rfl : i = 0 := by simpa using hi
    obtain rfl := Option.some.inj hx
    rw [cell_of _ _ _ _ (heap_new W _), cell_of _ _ _ _ (heap_new W _)]
    exact ⟨rfl, rfl⟩

/-- Three rows put together. -/
theorem cat_put (W : World) (p q : Option Addr) (n1 c1 n2 c2 : Nat) (A D : List Fl) (nm dt : ByteArray) (hA : Files W p n1 c1 A) (hD : Files W q n2 c2 D) (hn : n1 + n2 ≤ 50000) :
    Calls Try.prog 31 #[.slice (some ⟨W.heap.size + 1, 0, none⟩) 3 3]
      ((W.alloc (.cells #[.string nm, .string dt] 35)).alloc (.cells #[.slice p n1 c1, .slice (some ⟨W.heap.size, 0, none⟩) 1 1, .slice q n2 c2] 22)).drew
      fun e w' => (∃ v, e = .returned v ∧ w'.ownsRow W.heap.size 35 2 v (A ++ [(nm, dt)] ++ D).length (frow (A ++ [(nm, dt)] ++ D))) ∧ Below W.heap.size W w' := by
  obtain ⟨W1, h1⟩ : ∃ W1, W1 = W.alloc (.cells #[.string nm, .string dt] 35) := ⟨_, rfl⟩
  obtain ⟨W2, h2⟩ : ∃ W2, W2 = W1.alloc (.cells #[.slice p n1 c1, .slice (some ⟨W.heap.size, 0, none⟩) 1 1, .slice q n2 c2] 22) := ⟨_, rfl⟩
  have s1 : W1.heap.size = W.heap.size + 1 := by rw [h1, World.size_alloc]
  have s2 : W2.heap.size = W.heap.size + 2 := by rw [h2, World.size_alloc, s1]
  have b1 : Below W.heap.size W W1 := by rw [h1]; exact (Below.refl _ W).alloc (Nat.le_refl _) _
  have b12 : Below W1.heap.size W1 W2 := by rw [h2]; exact (Below.refl _ W1).alloc (Nat.le_refl _) _
  have b2 : Below W.heap.size W W2 := b1.trans (b12.mono (by omega))
  have hnew := heap_new W1 (.cells #[.slice p n1 c1, .slice (some ⟨W.heap.size, 0, none⟩) 1 1, .slice q n2 c2] 22)
  rw [← h2, s1] at hnew
  rw [← h1, ← h2]
  have hone := (Files.one W nm dt 35)
  rw [← h1] at hone
  have lA := hA.len
  have lD := hD.len
  refine (concat_c (W.heap.size + 1) 3 3 (fun k => if k = 0 then p else if k = 1 then some ⟨W.heap.size, 0, none⟩ else q) (fun k => if k = 0 then n1 else if k = 1 then 1 else n2) (fun k => if k = 0 then c1 else if k = 1 then 1 else c2)
    (fun k => if k = 0 then A else if k = 1 then [(nm, dt)] else D) W2.drew (by omega) (by show W.heap.size + 1 < W2.heap.size; omega) (fun k hk => ?_) (fun k hk => ?_) (by simp [tot]; omega) (by simp [tot]; omega)).mono ?_
  · show W2.cell? _ = _
    rw [cell_of _ _ _ _ hnew]
    rcases (by omega : k = 0 ∨ k = 1 ∨ k = 2) with rfl | rfl | rfl <;> rfl
  · rcases (by omega : k = 0 ∨ k = 1 ∨ k = 2) with rfl | rfl | rfl
    · exact hA.beside b2.drew
    · exact hone.beside b12.drew
    · exact hD.beside b2.drew
  · rintro e w' ⟨⟨v, rfl, hown⟩, hB⟩
    have e1 : catF (fun k => if k = 0 then A else if k = 1 then [(nm, dt)] else D) 3 = A ++ [(nm, dt)] ++ D := by simp [catF]
    have e2 : tot (fun k => if k = 0 then n1 else if k = 1 then 1 else n2) 3 = (A ++ [(nm, dt)] ++ D).length := by simp [tot, lA, lD]; omega
    rw [e1, e2] at hown
    have hs : W.heap.size ≤ W2.drew.heap.size := by show _ ≤ W2.heap.size; omega
    exact ⟨⟨_, rfl, own_base hown hs⟩, b2.drew.trans (hB.mono hs)⟩

set_option maxRecDepth 100000 in
set_option maxHeartbeats 4000000 in
theorem put_c (p : Option Addr) (n cap : Nat) (xs : List Fl) (nm dt : ByteArray) (w : World) (hn : n ≤ 10000) (h : Files w p n cap xs) :
    Calls Try.prog 18 #[.slice p n cap, .string nm, .string dt] w fun e w' => (∃ v, e = .returned v ∧ w'.ownsRow w.heap.size 35 2 v (putF xs nm dt).length (frow (putF xs nm dt))) ∧ Below w.heap.size w w' := by
  have hlen := h.len
  have hm := h.le
  have hm2 := h.capm
  unfold maxLen at hm2
  have hB0 : Below w.heap.size w (w.alloc (.cells #[.string nm] 9)) := (Below.refl _ w).alloc (Nat.le_refl _) _
  have hA := h.alloc (.cells #[.string nm] 9)
  have hc : (w.alloc (.cells #[.string nm] 9)).cell? ⟨w.heap.size, 0, none⟩ = some (.string nm) := by rw [cell_of _ _ _ _ (heap_new w _)]; rfl
  have HC := Lib.hid (placeP_c w.heap.size nm p n cap xs _ hA hc (by simp))
  have HK := Lib.hid (clone_c p n cap xs _ (by omega) hA)
  by_cases he : nm.toList = []
  · have hp : putF xs nm dt = xs := by unfold putF; rw [if_pos he]
    have HP := Lib.hid hp
    clear hp
    have he2 : (!nm.toList.isEmpty) = false := by rw [he]; rfl
    have he3 : nm.toList.isEmpty = true := by rw [he]; rfl
    go_enter Try.func18, Try.ntmps18
    go_wp2_with fail
    refine HK.out.mono ?_
    rintro e w1 ⟨⟨v, rfl, hown⟩, hB1⟩
    go_wp2
    go_ret
    rw [World.size_alloc] at hown
    refine ⟨⟨_, rfl, ?_⟩, hB0.trans (hB1.mono (by simp))⟩
    rw [HP.out, hlen]
    exact ⟨hown.1, hown.2.imp id fun ⟨g, c, cur, h1, h2, h3⟩ => ⟨g, c, cur, h1, by omega, h3⟩⟩
  · have he2 : (!nm.toList.isEmpty) = true := by simpa using he
    have he3 : nm.toList.isEmpty = false := by simpa using he
    go_enter Try.func18, Try.ntmps18
    go_wp2_with fail
    refine HC.out.mono ?_
    rintro e w1 ⟨rfl, hB1⟩
    have hB2 : Below w.heap.size w w1 := hB0.trans (hB1.mono (by simp))
    have hc1 : w1.cell? ⟨w.heap.size, 0, none⟩ = some (.string nm) := by rw [hB1.cell (p := ⟨w.heap.size, 0, none⟩) (by simp)]; exact hc
    have hpu : putF xs nm dt = xs.take (xs.findIdx (notB nm)) ++ [(nm, dt)] ++ xs.drop (if atN xs (xs.findIdx (notB nm)) nm then xs.findIdx (notB nm) + 1 else xs.findIdx (notB nm)) := by unfold putF; rw [if_neg he]
    have hfl : xs.findIdx (notB nm) ≤ n := by have := List.findIdx_le_length (xs := xs) (p := notB nm); omega
    obtain ⟨f, hf⟩ : ∃ f, f = xs.findIdx (notB nm) := ⟨_, rfl⟩
    rw [← hf] at hpu hfl ⊢
    have HPU := Lib.hid hpu
    have hF1 := h.beside hB2
    clear hpu hf HC HK he hA hB1 hc
    by_cases hfn : f < n
    · obtain ⟨b, o, rfl⟩ := h.ptr (by omega)
      obtain ⟨x, hx⟩ : ∃ x, xs[f]? = some x := ⟨xs[f]'(by omega), List.getElem?_eq_getElem (by omega)⟩
      obtain ⟨c0, c1⟩ := hF1.cell b o rfl f x hx
      have hat : atN xs f nm = (x.1.toList == nm.toList) := by unfold atN; rw [hx]; rfl
      have hfi : (f : Int) < n := by omega
      cases hq : (x.1.toList == nm.toList)
      · have HT : Hid (putF xs nm dt = xs.take f ++ [(nm, dt)] ++ xs.drop f) := Lib.hid (by rw [HPU.out, hat, hq]; rfl)
        clear hat hx
        go_wp2
        go_quiet (fail)
        rename_i nq
        obtain ⟨W, hW⟩ : ∃ W, W = w1.drewN nq := ⟨_, rfl⟩
        have hcW : W.cell? ⟨w.heap.size, 0, none⟩ = some (.string nm) := by rw [hW]; exact hc1
        have hBW : Below w.heap.size w W := by rw [hW]; exact below_drewN hB2 nq
        rw [← hW]
        clear hW
        have HFA := (h.take f hfl).beside hBW
        have HCC := Lib.hid (cat_put W (some ⟨b, o, none⟩) (some ⟨b, o + f * 2, none⟩) f cap (n - (f)) (cap - (f)) (xs.take f) (xs.drop (f)) nm dt HFA ((show Files w (some ⟨b, o + f * 2, none⟩) (n - (f)) (cap - (f)) (xs.drop (f)) from h.drop f hfl (fun _ => by rw [Addr.add_lit])).beside hBW) (by omega))
        have lW := hBW.size
        clear hc1 hB2 hF1 HFA
        clear c0 c1 hq hfi
        go_wp2_with fail
        go_region_with (go_at_call 31; refine HCC.out.mono ?_; rintro e w3 ⟨⟨v, rfl, hown⟩, hB3⟩)
        all_goals (try go_wp2)
        all_goals (try go_ret)
        all_goals exact ⟨⟨_, rfl, by rw [HT.out]; exact own_base hown hBW.size⟩, hBW.trans (hB3.mono hBW.size)⟩
      · have HT : Hid (putF xs nm dt = xs.take f ++ [(nm, dt)] ++ xs.drop (f + 1)) := Lib.hid (by rw [HPU.out, hat, hq]; rfl)
        have hfi2 : (f : Int) + 1 ≤ cap := by omega
        clear hat hx
        by_cases hcf : cap = f + 1
        · go_wp2
          go_quiet (fail)
          rename_i nq
          obtain ⟨W, hW⟩ : ∃ W, W = w1.drewN nq := ⟨_, rfl⟩
          have hcW : W.cell? ⟨w.heap.size, 0, none⟩ = some (.string nm) := by rw [hW]; exact hc1
          have hBW : Below w.heap.size w W := by rw [hW]; exact below_drewN hB2 nq
          rw [← hW]
          clear hW
          have HFA := (h.take f hfl).beside hBW
          have HCC := Lib.hid (cat_put W (some ⟨b, o, none⟩) (some ⟨b, o, none⟩) f cap 0 0 (xs.take f) (xs.drop (f + 1)) nm dt HFA ((show Files w (some ⟨b, o, none⟩) 0 0 (xs.drop (f + 1)) from by have := h.drop (f + 1) (by omega) (a' := ⟨b, o, none⟩) (fun e => by omega); rw [show n - (f + 1) = 0 by omega, show cap - (f + 1) = 0 by omega] at this; exact this).beside hBW) (by omega))
          have lW := hBW.size
          clear hc1 hB2 hF1 HFA
          clear c0 c1 hq hfi
          subst hcf
          go_wp2_with fail
          go_region_with (go_at_call 31; refine HCC.out.mono ?_; rintro e w3 ⟨⟨v, rfl, hown⟩, hB3⟩)
          all_goals (try go_wp2)
          all_goals (try go_ret)
          all_goals exact ⟨⟨_, rfl, by rw [HT.out]; exact own_base hown hBW.size⟩, hBW.trans (hB3.mono hBW.size)⟩
        · go_wp2
          go_quiet (fail)
          rename_i nq
          obtain ⟨W, hW⟩ : ∃ W, W = w1.drewN nq := ⟨_, rfl⟩
          have hcW : W.cell? ⟨w.heap.size, 0, none⟩ = some (.string nm) := by rw [hW]; exact hc1
          have hBW : Below w.heap.size w W := by rw [hW]; exact below_drewN hB2 nq
          rw [← hW]
          clear hW
          have HFA := (h.take f hfl).beside hBW
          have HCC := Lib.hid (cat_put W (some ⟨b, o, none⟩) (some ⟨b, o + (f + 1) * 2, none⟩) f cap (n - (f + 1)) (cap - (f + 1)) (xs.take f) (xs.drop (f + 1)) nm dt HFA ((show Files w (some ⟨b, o + (f + 1) * 2, none⟩) (n - (f + 1)) (cap - (f + 1)) (xs.drop (f + 1)) from h.drop (f + 1) (by omega) (fun _ => by rw [Addr.add_lit])).beside hBW) (by omega))
          have lW := hBW.size
          clear hc1 hB2 hF1 HFA
          clear c0 c1 hq hfi
          go_wp2_with fail
          go_region_with (go_at_call 31; refine HCC.out.mono ?_; rintro e w3 ⟨⟨v, rfl, hown⟩, hB3⟩)
          all_goals (try go_wp2)
          all_goals (try go_ret)
          all_goals exact ⟨⟨_, rfl, by rw [HT.out]; exact own_base hown hBW.size⟩, hBW.trans (hB3.mono hBW.size)⟩
    · obtain rfl : f = n := by omega
      have hlt2 : ((f : Int) < f) = False := by simp
      have HT : Hid (putF xs nm dt = xs.take f ++ [(nm, dt)] ++ xs.drop f) := Lib.hid (by
        rw [HPU.out]
        have : atN xs f nm = false := by unfold atN; rw [List.getElem?_eq_none (by omega)]
        rw [this]; rfl)
      cases p with
      | none =>
        obtain ⟨rfl, rfl⟩ := h.nil rfl
        go_wp2
        go_quiet (fail)
        rename_i nq
        obtain ⟨W, hW⟩ : ∃ W, W = w1.drewN nq := ⟨_, rfl⟩
        have hcW : W.cell? ⟨w.heap.size, 0, none⟩ = some (.string nm) := by rw [hW]; exact hc1
        have hBW : Below w.heap.size w W := by rw [hW]; exact below_drewN hB2 nq
        rw [← hW]
        clear hW
        have HFA := (h.take 0 hfl).beside hBW
        have HCC := Lib.hid (cat_put W none none 0 0 0 0 (xs.take 0) (xs.drop (0)) nm dt HFA ((show Files w none 0 0 (xs.drop (0)) from by have := h.take 0 (Nat.le_refl _); rw [show xs.drop 0 = xs.take 0 by simp [List.eq_nil_of_length_eq_zero hlen]]; exact this).beside hBW) (by omega))
        have lW := hBW.size
        clear hc1 hB2 hF1 HFA
        go_wp2_with fail
        go_region_with (go_at_call 31; refine HCC.out.mono ?_; rintro e w3 ⟨⟨v, rfl, hown⟩, hB3⟩)
        all_goals (try go_wp2)
        all_goals (try go_ret)
        all_goals exact ⟨⟨_, rfl, by rw [HT.out]; exact own_base hown hBW.size⟩, hBW.trans (hB3.mono hBW.size)⟩
      | some a =>
        by_cases hcf : cap = f
        · subst hcf
          go_wp2
          go_quiet (fail)
          rename_i nq
          obtain ⟨W, hW⟩ : ∃ W, W = w1.drewN nq := ⟨_, rfl⟩
          have hcW : W.cell? ⟨w.heap.size, 0, none⟩ = some (.string nm) := by rw [hW]; exact hc1
          have hBW : Below w.heap.size w W := by rw [hW]; exact below_drewN hB2 nq
          rw [← hW]
          clear hW
          have HFA := (h.take cap hfl).beside hBW
          have HCC := Lib.hid (cat_put W (some a) (some a) cap cap 0 0 (xs.take cap) (xs.drop (cap)) nm dt HFA ((show Files w (some a) 0 0 (xs.drop (cap)) from by have := h.drop cap hfl (a' := a) (fun e => by omega); simpa using this).beside hBW) (by omega))
          have lW := hBW.size
          clear hc1 hB2 hF1 HFA
          go_wp2_with fail
          go_region_with (go_at_call 31; refine HCC.out.mono ?_; rintro e w3 ⟨⟨v, rfl, hown⟩, hB3⟩)
          all_goals (try go_wp2)
          all_goals (try go_ret)
          all_goals exact ⟨⟨_, rfl, by rw [HT.out]; exact own_base hown hBW.size⟩, hBW.trans (hB3.mono hBW.size)⟩
        · go_wp2
          go_quiet (fail)
          rename_i nq
          obtain ⟨W, hW⟩ : ∃ W, W = w1.drewN nq := ⟨_, rfl⟩
          have hcW : W.cell? ⟨w.heap.size, 0, none⟩ = some (.string nm) := by rw [hW]; exact hc1
          have hBW : Below w.heap.size w W := by rw [hW]; exact below_drewN hB2 nq
          rw [← hW]
          clear hW
          have HFA := (h.take f hfl).beside hBW
          have HCC := Lib.hid (cat_put W (some a) (some (a.add (f * 2))) f cap 0 (cap - (f)) (xs.take f) (xs.drop (f)) nm dt HFA ((show Files w (some (a.add (f * 2))) 0 (cap - (f)) (xs.drop (f)) from by have := h.drop f hfl (a' := a.add (f * 2)) (fun _ => rfl); rw [Nat.sub_self] at this; exact this).beside hBW) (by omega))
          have lW := hBW.size
          clear hc1 hB2 hF1 HFA
          go_wp2_with fail
          go_region_with (go_at_call 31; refine HCC.out.mono ?_; rintro e w3 ⟨⟨v, rfl, hown⟩, hB3⟩)
          all_goals (try go_wp2)
          all_goals (try go_ret)
          all_goals exact ⟨⟨_, rfl, by rw [HT.out]; exact own_base hown hBW.size⟩, hBW.trans (hB3.mono hBW.size)⟩

end Go.Proofs.Ytkdnnhjoeaoihaa
