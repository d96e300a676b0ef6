/- The order of names; Add; the reference's Get, May; May. -/
import Derived.Test.YtkdnnhjoeaoihaaTbE
namespace Go.Proofs.Ytkdnnhjoeaoihaa
open Go.RowKit Go.Shelf
set_option linter.unusedVariables false
set_option linter.unusedSimpArgs false

theorem bl_tri : ∀ (a b : List UInt8), Op.bytesLess a b = !(Op.bytesLess b a || b == a)
  | [], [] => by simp [Op.bytesLess]
  | [], b :: l => by simp [Op.bytesLess]
  | a :: l, [] => by simp [Op.bytesLess]
  | a :: l, b :: m => by
    have ih := bl_tri l m
    rcases Nat.lt_trichotomy a.toNat b.toNat with h | h | h
    · have h1 : a < b := UInt8.lt_iff_toNat_lt.2 h
      have h2 : ¬ b < a := fun h3 => by have := UInt8.lt_iff_toNat_lt.1 h3; omega
      have h3 : ¬ b = a := fun e => by subst e; omega
      simp [Op.bytesLess, h1, h2, h3]
    · obtain rfl : a = b := UInt8.toNat_inj.1 h
      have h2 : ¬ a < a := fun h3 => by have := UInt8.lt_iff_toNat_lt.1 h3; omega
      simp [Op.bytesLess, h2, ih]
    · have h1 : b < a := UInt8.lt_iff_toNat_lt.2 h
      have h2 : ¬ a < b := fun h3 => by have := UInt8.lt_iff_toNat_lt.1 h3; omega
      have h3 : ¬ a = b := fun e => by subst e; omega
      simp [Op.bytesLess, h1, h2, h3]
theorem bl_irr : ∀ (a : List UInt8), Op.bytesLess a a = false
  | [] => by simp [Op.bytesLess]
  | a :: l => by
    have h2 : ¬ a < a := fun h3 => by have := UInt8.lt_iff_toNat_lt.1 h3; omega
    simp [Op.bytesLess, h2, bl_irr l]
theorem bl_trans : ∀ (a b c : List UInt8), Op.bytesLess a b = true → Op.bytesLess b c = true → Op.bytesLess a c = true
  | _, [], _ => by intro h; simp [Op.bytesLess] at h
  | _, _ :: _, [] => by intro _ h; simp [Op.bytesLess] at h
  | [], b :: l, c :: m => by simp [Op.bytesLess]
  | a :: k, b :: l, c :: m => by
    have ih := bl_trans k l m
    intro h1 h2
    rcases Nat.lt_trichotomy a.toNat b.toNat with h | h | h
    · rcases Nat.lt_trichotomy b.toNat c.toNat with g | g | g
      · have : a < c := UInt8.lt_iff_toNat_lt.2 (by omega)
        simp [Op.bytesLess, this]
      · have : a < c := UInt8.lt_iff_toNat_lt.2 (by omega)
        simp [Op.bytesLess, this]
      · have g1 : c < b := UInt8.lt_iff_toNat_lt.2 g
        have g2 : ¬ b < c := fun h3 => by have := UInt8.lt_iff_toNat_lt.1 h3; omega
        simp [Op.bytesLess, g1, g2] at h2
        obtain ⟨rfl, _⟩ := h2; omega
    · obtain rfl : a = b := UInt8.toNat_inj.1 h
      have e : ¬ a < a := fun h3 => by have := UInt8.lt_iff_toNat_lt.1 h3; omega
      rcases Nat.lt_trichotomy a.toNat c.toNat with g | g | g
      · have : a < c := UInt8.lt_iff_toNat_lt.2 (by omega)
        simp [Op.bytesLess, this]
      · obtain rfl : a = c := UInt8.toNat_inj.1 g
        simp [Op.bytesLess, e] at h1 h2 ⊢
        exact ih h1 h2
      · have g1 : c < a := UInt8.lt_iff_toNat_lt.2 g
        have g2 : ¬ a < c := fun h3 => by have := UInt8.lt_iff_toNat_lt.1 h3; omega
        simp [Op.bytesLess, g1, g2] at h2
        obtain ⟨rfl, _⟩ := h2; omega
    · have g1 : b < a := UInt8.lt_iff_toNat_lt.2 h
      have g2 : ¬ a < b := fun h3 => by have := UInt8.lt_iff_toNat_lt.1 h3; omega
      simp [Op.bytesLess, g1, g2] at h1
      obtain ⟨rfl, _⟩ := h1; omega
theorem bl_nil (b : List UInt8) : Op.bytesLess b [] = false := by cases b <;> simp [Op.bytesLess]
theorem bl_from (b : List UInt8) : Op.bytesLess [] b = !(b == []) := by cases b <;> simp [Op.bytesLess]

/-- The names rise, above a. -/
def mayB : List UInt8 → List Fl → Bool
  | _, [] => true
  | a, x :: l => Op.bytesLess a x.1.toList && mayB x.1.toList l
/-- The name ahead of place k. -/
def prevN (xs : List Fl) (k : Nat) : ByteArray := if k = 0 then ByteArray.empty else match xs[k - 1]? with
  | some x => x.1
  | none => ByteArray.empty
theorem prevN_succ (xs : List Fl) (k : Nat) (x : Fl) (h : xs[k]? = some x) : prevN xs (k + 1) = x.1 := by
  unfold prevN; simp [h]
theorem may_step (xs : List Fl) (k : Nat) (x : Fl) (h : xs[k]? = some x) (hk : mayB [] xs = mayB (prevN xs k).toList (xs.drop k)) :
    mayB [] xs = (Op.bytesLess (prevN xs k).toList x.1.toList && mayB (prevN xs (k + 1)).toList (xs.drop (k + 1))) := by
  obtain ⟨hl, e⟩ := List.getElem?_eq_some_iff.1 h
  rw [hk, List.drop_eq_getElem_cons hl, e, prevN_succ xs k x h]
  rfl

theorem prev0 (xs : List Fl) : (prevN xs 0).toList = [] := by unfold prevN; simp
theorem may_end (xs : List Fl) (hk : mayB [] xs = mayB (prevN xs xs.length).toList (xs.drop xs.length)) : mayB [] xs = true := by
  rw [hk, List.drop_length]; rfl

set_option maxRecDepth 100000 in
set_option maxHeartbeats 4000000 in
theorem may_c (p : Option Addr) (n cap : Nat) (xs : List Fl) (w : World) (h : Files w p n cap xs) :
    Calls Try.prog 14 #[.slice p n cap] w fun e w' => e = .returned (.bool (mayB [] xs)) ∧ Below w.heap.size w w' := by
  have hlen := h.len
  have hm := h.le
  have hm2 := h.capm
  unfold maxLen at hm2
  go_enter Try.func14, Try.ntmps14
  go_wp2
  go_loopw [3, 8] (fun a i wr => ∃ (k : Nat) (s : ByteArray), k ≤ n ∧ i = .int .i64 k ∧ a = .string s ∧ s = prevN xs k ∧ mayB [] xs = mayB (prevN xs k).toList (xs.drop k) ∧ Below w.heap.size w wr) (fun _ i _ => n - (intOf i).toNat)
  case atStart => exact ⟨0, _, by omega, rfl, rfl, rfl, by rw [prev0]; rfl, Below.refl _ _⟩
  case round =>
    obtain ⟨k, a, hk, rfl, rfl, ha, hmk, hB⟩ := hrel
    by_cases hlt : k < n
    · obtain ⟨b, o, rfl⟩ := h.ptr (by omega)
      obtain ⟨x, hxk⟩ : ∃ x, xs[k]? = some x := ⟨xs[k]'(by omega), List.getElem?_eq_getElem (by omega)⟩
      obtain ⟨c0, c1⟩ := (h.beside hB).cell b o rfl k x hxk
      have hs := may_step xs k x hxk hmk
      have hp := prevN_succ xs k x hxk
      have ht := bl_tri a.toList x.1.toList
      have hki : (k : Int) < n := by omega
      have lB := hB.size
      rw [← ha] at hs
      have HS := Lib.hid hs
      have HP := Lib.hid hp
      have HT := Lib.hid ht
      clear hs hp ht ha hmk hxk h
      cases hq : (Op.bytesLess x.1.toList a.toList || x.1.toList == a.toList)
      · go_wp2
        go_roundw
        case rel => exact ⟨k + 1, _, by omega, by simp, rfl, HP.out.symm, by rw [HS.out, HT.out, hq]; rfl, hB.alloc lB _⟩
        case measure => simp [intOf]; omega
      · go_wp2
        go_ret
        exact ⟨by rw [HS.out, HT.out, hq]; rfl, hB.alloc lB _⟩
    · obtain rfl : k = n := by omega
      have hlt1 : ((k : Int) < k) = False := by simp
      have HH := Lib.hid (may_end xs (by rw [hlen]; exact hmk))
      clear hmk ha
      go_wp2
      go_ret
      exact ⟨by rw [HH.out]; rfl, hB⟩

set_option maxRecDepth 100000 in
set_option maxHeartbeats 4000000 in
theorem rmay_c (p : Option Addr) (n cap : Nat) (xs : List Fl) (w : World) (h : Files w p n cap xs) :
    Calls Try.prog 15 #[.slice p n cap] w fun e w' => e = .returned (.bool (mayB [] xs)) ∧ Below w.heap.size w w' := by
  have hlen := h.len
  have hm := h.le
  have hm2 := h.capm
  unfold maxLen at hm2
  go_enter Try.func15, Try.ntmps15
  go_wp2
  go_loopw [3] (fun i wr => ∃ (k : Nat), k ≤ n ∧ i = .int .i64 k ∧ mayB [] xs = mayB (prevN xs k).toList (xs.drop k) ∧ Below w.heap.size w wr) (fun i _ => n - (intOf i).toNat)
  case atStart => exact ⟨0, by omega, rfl, by rw [prev0]; rfl, Below.refl _ _⟩
  case round =>
    obtain ⟨k, hk, rfl, hmk, hB⟩ := hrel
    by_cases hlt : k < n
    · obtain ⟨b, o, rfl⟩ := h.ptr (by omega)
      obtain ⟨x, hxk⟩ : ∃ x, xs[k]? = some x := ⟨xs[k]'(by omega), List.getElem?_eq_getElem (by omega)⟩
      have hF := h.beside hB
      obtain ⟨c0, c1⟩ := hF.cell b o rfl k x hxk
      have hs := may_step xs k x hxk hmk
      have hki : (k : Int) < n := by omega
      have HS := Lib.hid hs
      clear hs hmk
      rcases k with _ | q
      · have e0 : Op.bytesLess (prevN xs 0).toList x.1.toList = !(x.1.toList == []) := by rw [prev0]; exact bl_from _
        have HE := Lib.hid e0
        simp only [Nat.zero_mul, Nat.add_zero] at c0 c1
        clear e0 hxk h hF
        cases hq : x.1.toList.isEmpty
        · have hq2 : (x.1.toList == []) = false := by simpa using hq
          have hq3 : (!x.1.toList.isEmpty) = true := by rw [hq]; rfl
          have hq4 : ¬ x.1.toList = [] := by simpa using hq
          have HQ := Lib.hid hq2
          have hn0 : 0 < n := hlt
          go_wp2
          go_quiet (fail)
          rename_i nq
          go_wp2
          go_roundw
          case rel => exact ⟨1, by omega, rfl, by rw [HS.out, HE.out, HQ.out]; rfl, below_drewN hB nq⟩
          case measure => simp [intOf]; omega
        · have hq2 : x.1.toList = [] := by simpa using hq
          have hq3 : (!x.1.toList.isEmpty) = false := by rw [hq]; rfl
          have HQ : Hid ((x.1.toList == []) = true) := Lib.hid (by rw [hq2]; rfl)
          have hn0 : 0 < n := hlt
          clear hq2
          go_wp2
          go_quiet (fail)
          rename_i nq
          go_wp2
          go_ret
          exact ⟨by rw [HS.out, HE.out, HQ.out]; rfl, below_drewN hB nq⟩
      · obtain ⟨y, hy⟩ : ∃ y, xs[q]? = some y := ⟨xs[q]'(by omega), List.getElem?_eq_getElem (by omega)⟩
        obtain ⟨d0, d1⟩ := hF.cell b o rfl q y hy
        have hp := prevN_succ xs q y hy
        rw [hp] at HS
        have hki2 : (q : Int) + 1 < n := by omega
        have hqi : (q : Int) < n := by omega
        have ew : IntKind.i64.wrap ((q : Int) + 1 - 1) = (q : Int) := by simp [IntKind.wrap, IntKind.signed, IntKind.bits]; omega
        have HY := Lib.hid (bl_nil y.1.toList)
        clear hxk hy h hF hp
        cases hq : x.1.toList.isEmpty
        · have hq3 : (!x.1.toList.isEmpty) = true := by rw [hq]; rfl
          have hq4 : ¬ x.1.toList = [] := by simpa using hq
          cases hl : Op.bytesLess y.1.toList x.1.toList
          · have hl2 : (!Op.bytesLess y.1.toList x.1.toList) = true := by rw [hl]; rfl
            go_wp2
            go_quiet (fail)
            rename_i nq
            go_wp2
            go_ret
            exact ⟨by rw [HS.out, hl]; rfl, below_drewN hB nq⟩
          · have hl2 : (!Op.bytesLess y.1.toList x.1.toList) = false := by rw [hl]; rfl
            go_wp2
            go_quiet (fail)
            rename_i nq
            go_wp2
            go_roundw
            case rel => exact ⟨q + 1 + 1, by omega, by simp, by rw [HS.out, hl]; rfl, below_drewN hB nq⟩
            case measure => simp [intOf]; omega
        · have hq2 : x.1.toList = [] := by simpa using hq
          have hq3 : (!x.1.toList.isEmpty) = false := by rw [hq]; rfl
          have HQ : Hid (x.1.toList = []) := Lib.hid hq2
          clear hq2
          go_wp2
          go_quiet (fail)
          rename_i nq
          go_wp2
          go_ret
          exact ⟨by rw [HS.out, HQ.out, HY.out]; rfl, below_drewN hB nq⟩
    · obtain rfl : k = n := by omega
      have hlt1 : ((k : Int) < k) = False := by simp
      have HH := Lib.hid (may_end xs (by rw [hlen]; exact hmk))
      clear hmk
      go_wp2
      go_ret
      exact ⟨by rw [HH.out]; rfl, hB⟩

/-- What the reference has of a name. -/
theorem find_take {xs : List Fl} {k : Nat} {x : Fl} {P : Fl → Bool} (hx : xs[k]? = some x) (ha : (xs.take k).all (fun x => !P x) = true) (hp : P x = true) : xs.find? P = some x := by
  obtain ⟨hk, e⟩ := List.getElem?_eq_some_iff.1 hx
  rw [List.find?_eq_some_iff_getElem]
  refine ⟨hp, k, hk, e, fun j hj => ?_⟩
  have := List.all_eq_true.1 ha xs[j] (by rw [List.mem_take_iff_getElem]; exact ⟨j, by omega, rfl⟩)
  simpa using this
theorem find_no {xs : List Fl} {P : Fl → Bool} (ha : xs.all (fun x => !P x) = true) : xs.find? P = none := by
  rw [List.find?_eq_none]
  intro x hx
  have := List.all_eq_true.1 ha x hx
  simpa using this

set_option maxRecDepth 100000 in
set_option maxHeartbeats 4000000 in
theorem rget_c (p : Option Addr) (n cap : Nat) (xs : List Fl) (nm : ByteArray) (w : World) (h : Files w p n cap xs) :
    Calls Try.prog 12 #[.slice p n cap, .string nm] w fun e w' => e = .returned (.tuple #[.string (getF xs nm).1, .bool (getF xs nm).2]) ∧ w' = w := by
  have hlen := h.len
  have hm := h.le
  have hm2 := h.capm
  unfold maxLen at hm2
  go_enter Try.func12, Try.ntmps12
  go_wp2
  go_loop [6] (fun i => ∃ (k : Nat), k ≤ n ∧ i = .int .i64 k ∧ (xs.take k).all (fun x => !isN nm x) = true) (fun i => n - (intOf i).toNat)
  case atStart => exact ⟨0, by omega, rfl, by simp⟩
  case round =>
    obtain ⟨k, hk, rfl, ha⟩ := hrel
    by_cases hlt : k < n
    · obtain ⟨b, o, rfl⟩ := h.ptr (by omega)
      obtain ⟨x, hxk⟩ : ∃ x, xs[k]? = some x := ⟨xs[k]'(by omega), List.getElem?_eq_getElem (by omega)⟩
      obtain ⟨c0, c1⟩ := h.cell b o rfl k x hxk
      have hs := take_snoc_all (fun x => !isN nm x) xs k x hxk
      have hki : (k : Int) < n := by omega
      have HS := Lib.hid hs
      have HA := Lib.hid ha
      cases hq : (x.1.toList == nm.toList)
      · clear hs ha hxk h
        go_wp2
        go_round
        case rel => exact ⟨k + 1, by omega, by simp, by rw [HS.out, HA.out]; simp [isN, hq]⟩
        case measure => simp [intOf]; omega
      · have hg : getF xs nm = (x.2, true) := by unfold getF; rw [find_take hxk ha hq]
        have HG := Lib.hid hg
        clear hs ha hxk h hg
        go_wp2
        go_ret2
        exact ⟨by rw [HG.out]; rfl, rfl⟩
    · obtain rfl : k = n := by omega
      have hlt1 : ((k : Int) < k) = False := by simp
      have hg : getF xs nm = (ByteArray.empty, false) := by unfold getF; rw [find_no (by rw [← ha, ← hlen, List.take_length])]
      have HG := Lib.hid hg
      clear hg ha
      go_wp2
      go_ret2
      exact ⟨by rw [HG.out]; rfl, rfl⟩

def addF (xs : List Fl) (nm dt : ByteArray) : List Fl := putF xs nm ((getF xs nm).1 ++ dt)
theorem getF_size {xs : List Fl} {M : Nat} (h : ∀ x ∈ xs, x.2.size ≤ M) (nm : ByteArray) : (getF xs nm).1.size ≤ M := by
  unfold getF
  split
  · rename_i x hx; exact h x (List.mem_of_find?_eq_some hx)
  · simp

set_option maxRecDepth 100000 in
set_option maxHeartbeats 4000000 in
theorem add_c (p : Option Addr) (n cap : Nat) (xs : List Fl) (nm dt : ByteArray) (w : World) (hn : n ≤ 10000) (hs : ∀ x ∈ xs, x.2.size ≤ 100000000) (hd : dt.size ≤ 100000000) (h : Files w p n cap xs) :
    Calls Try.prog 16 #[.slice p n cap, .string nm, .string dt] w fun e w' => (∃ v, e = .returned v ∧ w'.ownsRow w.heap.size 35 2 v (addF xs nm dt).length (frow (addF xs nm dt))) ∧ Below w.heap.size w w' := by
  have hg := getF_size hs nm
  unfold addF
  obtain ⟨g, hgd⟩ : ∃ g, g = getF xs nm := ⟨_, rfl⟩
  have HG := Lib.hid (get_c p n cap xs nm w h)
  rw [← hgd] at hg HG ⊢
  obtain ⟨g1, g2⟩ := g
  simp only at hg HG ⊢
  have hb : (9223372036854775807 < ((g1.size + dt.size : Nat) : Int)) = False := by simp; omega
  have hb2 : (9223372036854775807 < (g1.size : Int) + (dt.size : Int)) = False := by simp; omega
  have hb3 : (9223372036854775807 < g1.size + dt.size) = False := by simp; omega
  have HP := Lib.hid (fun w1 (hB : Below w.heap.size w w1) => put_c p n cap xs nm (g1 ++ dt) w1 hn (h.beside hB))
  clear hgd hs
  go_enter Try.func16, Try.ntmps16
  go_wp2_with fail
  refine HG.out.mono ?_
  rintro e w1 ⟨rfl, hB1⟩
  go_wp2_with fail
  refine (HP.out w1 hB1).mono ?_
  rintro e w2 ⟨⟨v, rfl, hown⟩, hB2⟩
  go_wp2
  go_ret
  exact ⟨⟨_, rfl, own_base hown hB1.size⟩, hB1.trans (hB2.mono hB1.size)⟩

end Go.Proofs.Ytkdnnhjoeaoihaa
