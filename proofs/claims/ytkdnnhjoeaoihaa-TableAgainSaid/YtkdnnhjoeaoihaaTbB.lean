/- The place of a file; Get. -/
import Derived.Test.YtkdnnhjoeaoihaaTbA
import Derived.Shelf.Abstract
namespace Go.Proofs.Ytkdnnhjoeaoihaa
open Go.RowKit Go.Shelf
set_option linter.unusedVariables false
set_option linter.unusedSimpArgs false

set_option maxRecDepth 100000 in
set_option maxHeartbeats 4000000 in
theorem get1_c (x : Fl) (Bn : Nat) (nm : ByteArray) (w : World) (hc : w.cell? ⟨Bn, 0, none⟩ = some (.string nm)) (hlt : Bn < w.heap.size) :
    Calls Try.prog 28 #[.agg #[.string x.1, .string x.2], .pointer (some ⟨Bn, 0, none⟩)] w fun e w' => e = .returned (.bool (x.1.toList == nm.toList)) ∧ Below w.heap.size w w' := by
  go_enter Try.func28, Try.ntmps28
  go_wp2
  go_ret
  exact ⟨rfl, (Below.refl _ w).alloc (Nat.le_refl _) _⟩

set_option maxRecDepth 100000 in
set_option maxHeartbeats 4000000 in
theorem put1_c (x : Fl) (Bn : Nat) (nm : ByteArray) (w : World) (hc : w.cell? ⟨Bn, 0, none⟩ = some (.string nm)) (hlt : Bn < w.heap.size) :
    Calls Try.prog 30 #[.agg #[.string x.1, .string x.2], .pointer (some ⟨Bn, 0, none⟩)] w fun e w' => e = .returned (.bool (!Op.bytesLess x.1.toList nm.toList)) ∧ Below w.heap.size w w' := by
  go_enter Try.func30, Try.ntmps30
  go_wp2
  go_ret
  exact ⟨rfl, (Below.refl _ w).alloc (Nat.le_refl _) _⟩

theorem findIdx_none {α : Type} (P : α → Bool) (xs : List α) (h : xs.all (fun x => !P x) = true) : xs.findIdx P = xs.length := by
  rw [List.findIdx_eq_length]
  intro x hx
  have := List.all_eq_true.1 h x hx
  simpa using this
theorem findIdx_at {α : Type} (P : α → Bool) (xs : List α) (k : Nat) (x : α) (hx : xs[k]? = some x) (ha : (xs.take k).all (fun x => !P x) = true) (hp : P x = true) : xs.findIdx P = k := by
  obtain ⟨hk, e⟩ := List.getElem?_eq_some_iff.1 hx
  rw [List.findIdx_eq hk]
  refine ⟨by rw [e]; exact hp, fun j hj => ?_⟩
  have := List.all_eq_true.1 ha xs[j] (by rw [List.mem_take_iff_getElem]; exact ⟨j, by omega, rfl⟩)
  simpa using this

set_option maxRecDepth 100000 in
set_option maxHeartbeats 4000000 in
theorem place_c (K Bn : Nat) (nm : ByteArray) (P : Fl → Bool) (hen : ∀ args w, (callFunc K args).run Try.prog w = .ok (.enter K args) w)
    (HK : ∀ (x : Fl) (w : World), w.cell? ⟨Bn, 0, none⟩ = some (.string nm) → Bn < w.heap.size → Calls Try.prog K #[.agg #[.string x.1, .string x.2], .pointer (some ⟨Bn, 0, none⟩)] w fun e w' => e = .returned (.bool (P x)) ∧ Below w.heap.size w w')
    (p : Option Addr) (n cap : Nat) (xs : List Fl) (w : World) (h : Files w p n cap xs) (hc : w.cell? ⟨Bn, 0, none⟩ = some (.string nm)) (hlB : Bn < w.heap.size) :
    Calls Try.prog 27 #[.slice p n cap, .func (.func K) #[] #[.pointer (some ⟨Bn, 0, none⟩)]] w fun e w' => e = .returned (.int .i64 (xs.findIdx P : Nat)) ∧ Below w.heap.size w w' := by
  have hlen := h.len
  have hm := h.le
  have hm2 := h.capm
  unfold maxLen at hm2
  have HH := Lib.hid HK
  have HC := Lib.hid hc
  clear HK hc
  go_enter Try.func27, Try.ntmps27
  go_wp2
  go_loopw [9] (fun i wr => ∃ k : Nat, k ≤ n ∧ i = .int .i64 k ∧ (xs.take k).all (fun x => !P x) = true ∧ Below w.heap.size w wr) (fun i _ => n - (intOf i).toNat)
  case atStart => exact ⟨0, by omega, rfl, by simp, Below.refl _ _⟩
  case round =>
    obtain ⟨k, hk, rfl, ha, hB⟩ := hrel
    by_cases hlt : k < n
    · obtain ⟨b, o, rfl⟩ := h.ptr (by omega)
      obtain ⟨x, hxk⟩ : ∃ x, xs[k]? = some x := ⟨xs[k]'(by omega), List.getElem?_eq_getElem (by omega)⟩
      have hb := h.lt (by omega) b o rfl
      obtain ⟨c0, c1⟩ := (h.beside hB).cell b o rfl k x hxk
      have hs := take_snoc_all (fun x => !P x) xs k x hxk
      have hf := findIdx_at P xs k x hxk
      have hki : (k : Int) < n := by omega
      have HS := Lib.hid hs
      have HF := Lib.hid hf
      have HA := Lib.hid ha
      have lB := hB.size
      clear hs hf ha hxk h
      have hcB : (wr.alloc (.cells #[.string x.1, .string x.2] 35)).cell? ⟨Bn, 0, none⟩ = some (.string nm) := by
        rw [((hB.alloc lB (.cells #[.string x.1, .string x.2] 35)).cell (p := ⟨Bn, 0, none⟩) hlB)]; exact HC.out
      have HX := Lib.hid hcB
      clear hcB
      go_wp2_with fail
      refine (HH.out x _ HX.out (by simp; omega)).mono ?_
      rintro e w1 ⟨rfl, hB1⟩
      have hB2 : Below w.heap.size w w1 := (hB.alloc lB _).trans (hB1.mono (by simp; omega))
      cases hp : P x
      · have hB2' := hB2
        go_wp2
        go_roundw
        case rel => exact ⟨k + 1, by omega, by simp, by rw [HS.out, HA.out, hp]; rfl, hB2⟩
        case measure => simp [intOf]; omega
      · have HP := HF.out HA.out hp
        have HP2 := Lib.hid HP
        clear HP
        go_wp2
        go_ret
        exact ⟨by rw [HP2.out]; rfl, hB2⟩
    · obtain rfl : k = n := by omega
      have hlt1 : ((k : Int) < k) = False := by simp
      have HA : xs.findIdx P = k := by rw [findIdx_none P xs (by rw [← ha, ← hlen, List.take_length]), hlen]
      have HH2 := Lib.hid HA
      clear HA ha
      go_wp2
      go_ret
      exact ⟨by rw [HH2.out]; try rfl, hB⟩

def isN (nm : ByteArray) (x : Fl) : Bool := x.1.toList == nm.toList
def notB (nm : ByteArray) (x : Fl) : Bool := !Op.bytesLess x.1.toList nm.toList

theorem placeG_c (Bn : Nat) (nm : ByteArray) (p : Option Addr) (n cap : Nat) (xs : List Fl) (w : World) (h : Files w p n cap xs) (hc : w.cell? ⟨Bn, 0, none⟩ = some (.string nm)) (hlB : Bn < w.heap.size) :
    Calls Try.prog 27 #[.slice p n cap, .func (.func 28) #[] #[.pointer (some ⟨Bn, 0, none⟩)]] w fun e w' => e = .returned (.int .i64 (xs.findIdx (isN nm) : Nat)) ∧ Below w.heap.size w w' :=
  place_c _ Bn nm (isN nm) (enters_of Try.func28 (by kernel_rfl) rfl) (fun x w hc hl => get1_c x Bn nm w hc hl) p n cap xs w h hc hlB
theorem placeP_c (Bn : Nat) (nm : ByteArray) (p : Option Addr) (n cap : Nat) (xs : List Fl) (w : World) (h : Files w p n cap xs) (hc : w.cell? ⟨Bn, 0, none⟩ = some (.string nm)) (hlB : Bn < w.heap.size) :
    Calls Try.prog 27 #[.slice p n cap, .func (.func 30) #[] #[.pointer (some ⟨Bn, 0, none⟩)]] w fun e w' => e = .returned (.int .i64 (xs.findIdx (notB nm) : Nat)) ∧ Below w.heap.size w w' :=
  place_c _ Bn nm (notB nm) (enters_of Try.func30 (by kernel_rfl) rfl) (fun x w hc hl => put1_c x Bn nm w hc hl) p n cap xs w h hc hlB

/-- What a list of files has of a name. -/
def getF (xs : List Fl) (nm : ByteArray) : ByteArray × Bool := match xs.find? (isN nm) with
  | some x => (x.2, true)
  | none => (ByteArray.empty, false)

set_option maxRecDepth 100000 in
set_option maxHeartbeats 4000000 in
theorem get_c (p : Option Addr) (n cap : Nat) (xs : List Fl) (nm : ByteArray) (w : World) (h : Files w p n cap xs) :
    Calls Try.prog 11 #[.slice p n cap, .string nm] w fun e w' => e = .returned (.tuple #[.string (getF xs nm).1, .bool (getF xs nm).2]) ∧ Below w.heap.size w w' := by
  have hlen := h.len
  have hm := h.le
  have hm2 := h.capm
  unfold maxLen at hm2
  have hA := h.alloc (.cells #[.string nm] 9)
  have hc : (w.alloc (.cells #[.string nm] 9)).cell? ⟨w.heap.size, 0, none⟩ = some (.string nm) := by rw [cell_of _ _ _ _ (heap_new w _)]; rfl
  have HC := Lib.hid (placeG_c w.heap.size nm p n cap xs _ hA hc (by simp))
  clear hc
  go_enter Try.func11, Try.ntmps11
  go_wp2_with fail
  refine HC.out.mono ?_
  rintro e w1 ⟨rfl, hB1⟩
  have hB2 : Below w.heap.size w w1 := ((Below.refl _ w).alloc (Nat.le_refl _) _).trans (hB1.mono (by simp))
  clear HC hA
  by_cases hf : xs.findIdx (isN nm) < n
  · obtain ⟨b, o, rfl⟩ := h.ptr (by omega)
    obtain ⟨k, hk⟩ : ∃ k, k = xs.findIdx (isN nm) := ⟨_, rfl⟩
    obtain ⟨x, hx⟩ : ∃ x, xs[k]? = some x := ⟨xs[k]'(by omega), List.getElem?_eq_getElem (by omega)⟩
    obtain ⟨c0, c1⟩ := (h.beside hB2).cell b o rfl k x hx
    have hp : isN nm x = true := by
      have := List.findIdx_getElem (xs := xs) (p := isN nm) (w := by omega)
      obtain ⟨hk', e⟩ := List.getElem?_eq_some_iff.1 hx
      rw [← e]; subst hk; exact this
    have hg : getF xs nm = (x.2, true) := by
      unfold getF
      have : xs.find? (isN nm) = some x := by
        rw [List.find?_eq_some_iff_getElem]
        obtain ⟨hk', e⟩ := List.getElem?_eq_some_iff.1 hx
        refine ⟨hp, k, hk', e, fun j hj => ?_⟩
        have := List.not_of_lt_findIdx (xs := xs) (p := isN nm) (i := j) (by omega)
        simpa using this
      rw [this]
    rw [← hk] at hf ⊢
    have hkn : decide ((k : Int) = n) = false := by simp; omega
    have hkn2 : ((k : Int) == n) = false := by simp; omega
    have hkn3 : ¬ k = n := by omega
    have HG := Lib.hid hg
    clear hg hk hx hp hlen
    go_wp2
    go_ret2
    exact ⟨by rw [HG.out]; rfl, hB2⟩
  · have hk : xs.findIdx (isN nm) = n := by have := List.findIdx_le_length (xs := xs) (p := isN nm); omega
    have hg : getF xs nm = (ByteArray.empty, false) := by
      unfold getF
      have : xs.find? (isN nm) = none := by
        rw [List.find?_eq_none]
        intro x hx
        rw [← hlen, List.findIdx_eq_length] at hk
        simpa using hk x hx
      rw [this]
    rw [hk]
    have HG := Lib.hid hg
    clear hg hk hf hlen
    go_wp2
    go_ret2
    exact ⟨by rw [HG.out]; rfl, hB2⟩

end Go.Proofs.Ytkdnnhjoeaoihaa
