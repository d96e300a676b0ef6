/- Join; the reference's Join. -/
import Derived.Test.YtkdnnhjoeaoihaaTbN
import Derived.Test.YtkdnnhjoeaoihaaTbW
namespace Go.Proofs.Ytkdnnhjoeaoihaa
open Go.RowKit Go.Shelf
set_option linter.unusedVariables false
set_option linter.unusedSimpArgs false

theorem BuilderAtF.below {T e : TypeId} {B b : Nat} {p : Value} {bs : List Value} {w w' : World} (h : Lib.BuilderAtF T e B b p bs w) (hB : Below w.heap.size w w') : Lib.BuilderAtF T e B b p bs w' := by
  obtain ⟨h1, v, h2, h3, h4⟩ := h
  refine ⟨h1, v, (hB.block b (Array.getElem?_eq_some_iff.1 h2).1).trans h2, ⟨h3.1, ?_⟩, h4⟩
  rcases h3.2 with h | ⟨g, cap, cur, fz, e1, e2, e3, r⟩
  · exact .inl h
  · exact .inr ⟨g, cap, cur, fz, e1, e2, (hB.block g (Array.getElem?_eq_some_iff.1 e3).1).trans e3, r⟩
theorem SB.below {B b : Nat} {bs : List Value} {w w' : World} (h : SB B b bs w) (hB : Below w.heap.size w w') : SB B b bs w' := h.imp (fun x => BuilderAtF.below x hB) (fun x => BuilderAtF.below x hB)
theorem cells_len (a : List UInt8) : (Lib.byteCells a).length = a.length := by simp [Lib.byteCells]
theorem cells_app (a b : List UInt8) : Lib.byteCells (a ++ b) = Lib.byteCells a ++ Lib.byteCells b := by simp [Lib.byteCells]

def txt (x : Ln) : List UInt8 := x.1.data.toList ++ (if x.2 then [10] else [])
def joinL (xs : List Ln) : List UInt8 := xs.flatMap txt
theorem join_snoc (xs : List Ln) (k : Nat) (x : Ln) (h : xs[k]? = some x) : joinL (xs.take (k + 1)) = joinL (xs.take k) ++ txt x := by
  obtain ⟨hk, e⟩ := List.getElem?_eq_some_iff.1 h
  rw [List.take_succ_eq_append_getElem hk, e]
  simp [joinL]
theorem join_len : ∀ (xs : List Ln), (∀ x ∈ xs, x.1.size ≤ 1000) → (joinL xs).length ≤ 1001 * xs.length
  | [], _ => by simp [joinL]
  | x :: l, h => by
    have ih := join_len l (fun y hy => h y (by simp [hy]))
    have hx := h x (by simp)
    have e : joinL (x :: l) = txt x ++ joinL l := by simp [joinL]
    have hd : x.1.data.toList.length = x.1.size := by simp
    rw [e, List.length_append, List.length_cons]
    unfold txt
    rw [List.length_append, hd]
    split <;> simp <;> omega

set_option maxRecDepth 100000 in
set_option maxHeartbeats 8000000 in
theorem rjoin_c (p : Option Addr) (n cap : Nat) (xs : List Ln) (w : World) (hn : n ≤ 10000) (hx : ∀ x ∈ xs, x.1.size ≤ 1000) (h : Lines w p n cap xs) :
    Calls Try.prog 26 #[.slice p n cap] w fun e w' => e = .returned (.string ⟨(joinL xs).toArray⟩) ∧ w' = w := by
  have hlen := h.len
  have hm := h.le
  have HL := Lib.hid (fun k (hk : k ≤ n) => (show (joinL (xs.take k)).length ≤ 20000000 from by have := join_len (xs.take k) (fun x h => hx x (List.mem_of_mem_take h)); rw [List.length_take] at this; omega))
  have HX := Lib.hid hx
  clear hx
  go_enter Try.func26, Try.ntmps26
  go_wp2
  go_loop [3, 4] (fun d i => ∃ (k : Nat) (t : ByteArray), k ≤ n ∧ i = .int .i64 k ∧ d = .string t ∧ t = ⟨(joinL (xs.take k)).toArray⟩) (fun _ i => n - (RowKit.intOf i).toNat)
  case atStart => exact ⟨0, _, by omega, rfl, rfl, rfl⟩
  case round =>
    obtain ⟨k, t, hk, rfl, rfl, ht⟩ := hrel
    by_cases hlt : k < n
    · obtain ⟨b, o, rfl⟩ := h.ptr (by omega)
      obtain ⟨x, hxk⟩ : ∃ x, xs[k]? = some x := ⟨xs[k]'(by omega), List.getElem?_eq_getElem (by omega)⟩
      obtain ⟨c0, c1⟩ := h.cell b o rfl k x hxk
      have hsn := join_snoc xs k x hxk
      have hxs := HX.out x (List.mem_of_getElem? hxk)
      have hts : t.size = (joinL (xs.take k)).length := by rw [ht]; simp [ByteArray.size]
      have hle := HL.out k hk
      have hki : (k : Int) < n := by omega
      have HS := Lib.hid hsn
      have HT := Lib.hid ht
      have hb3 : (9223372036854775807 < t.size + x.1.size) = False := by simp; omega
      have hb2 : (9223372036854775807 < (t.size : Int) + (x.1.size : Int)) = False := by simp; omega
      have hb4 : (9223372036854775807 < t.size + x.1.size + 1) = False := by simp; omega
      have hb5 : (9223372036854775807 < (t.size : Int) + (x.1.size : Int) + 1) = False := by simp; omega
      clear hsn ht hxk h hts
      obtain ⟨a, f⟩ := x
      simp only at c0 c1 hb2 hb3 hb4 hb5
      cases f
      · go_wp2
        go_round
        case rel =>
          refine ⟨k + 1, _, by omega, by simp, rfl, ?_⟩
          rw [HS.out, HT.out]
          apply ByteArray.ext
          apply Array.ext'
          simp [txt]
        case measure => (simp [RowKit.intOf]) <;> omega
      · go_wp2
        go_round
        case rel =>
          refine ⟨k + 1, _, by omega, by simp, rfl, ?_⟩
          rw [HS.out, HT.out]
          apply ByteArray.ext
          apply Array.ext'
          simp [txt]
        case measure => (simp [RowKit.intOf]) <;> omega
    · obtain rfl : k = n := by omega
      have hlt1 : ((k : Int) < k) = False := by simp
      rw [← hlen, List.take_length] at ht
      have HT := Lib.hid ht
      clear ht
      go_wp2
      go_ret
      exact ⟨by rw [← HT.out]; rfl, rfl⟩

set_option maxRecDepth 100000 in
set_option maxHeartbeats 8000000 in
theorem join_c (p : Option Addr) (n cap : Nat) (xs : List Ln) (w : World) (hn : n ≤ 10000) (hx : ∀ x ∈ xs, x.1.size ≤ 1000) (h : Lines w p n cap xs) :
    Calls Try.prog 25 #[.slice p n cap] w fun e w' => e = .returned (.string ⟨(joinL xs).toArray⟩) ∧ Below w.heap.size w w' := by
  have hlen := h.len
  have hm := h.le
  have HL := Lib.hid (fun k (hk : k ≤ n) => (show (joinL (xs.take k)).length ≤ 20000000 from by have := join_len (xs.take k) (fun x h => hx x (List.mem_of_mem_take h)); rw [List.length_take] at this; omega))
  have HX := Lib.hid hx
  clear hx
  have hb0 : Below w.heap.size w (w.alloc (.cells #[.pointer none, .slice none 0 0] 64)) := (Below.refl _ w).alloc (Nat.le_refl _) _
  have hsb : SB w.heap.size w.heap.size (Lib.byteCells []) (w.alloc (.cells #[.pointer none, .slice none 0 0] 64)) :=
    .inl ⟨by omega, .slice none 0 0, heap_new _ _, ⟨by simp [Lib.byteCells], .inl ⟨rfl, rfl⟩⟩, by simp [Value.ownBlock]⟩
  have H0 := Lib.hid (And.intro hb0 hsb)
  clear hb0 hsb
  go_enter Try.func25, Try.ntmps25
  go_wp2
  go_loopw [8] (fun i wr => ∃ (k : Nat), k ≤ n ∧ i = .int .i64 k ∧ Below w.heap.size w wr ∧ SB w.heap.size w.heap.size (Lib.byteCells (joinL (xs.take k))) wr) (fun i _ => n - (RowKit.intOf i).toNat)
  case atStart => exact ⟨0, by omega, rfl, H0.out.1, H0.out.2⟩
  case round =>
    obtain ⟨k, hk, rfl, hB, hsb⟩ := hrel
    have lB := hB.size
    by_cases hlt : k < n
    · obtain ⟨b, o, rfl⟩ := h.ptr (by omega)
      obtain ⟨x, hxk⟩ : ∃ x, xs[k]? = some x := ⟨xs[k]'(by omega), List.getElem?_eq_getElem (by omega)⟩
      obtain ⟨c0, c1⟩ := (h.beside hB).cell b o rfl k x hxk
      have hsn := join_snoc xs k x hxk
      have hxs := HX.out x (List.mem_of_getElem? hxk)
      have hle := HL.out k hk
      have hcl := cells_len (joinL (xs.take k))
      have hw0 : w.heap.size < wr.heap.size := hsb.elim (fun ⟨_, _, h, _⟩ => (Array.getElem?_eq_some_iff.1 h).1) (fun ⟨_, _, h, _⟩ => (Array.getElem?_eq_some_iff.1 h).1)
      have hki : (k : Int) < n := by omega
      have HS := Lib.hid hsn
      obtain ⟨a, f⟩ := x
      simp only at c0 c1 hxs
      have bA : Below wr.heap.size wr (wr.alloc (.cells #[.string a, .bool f] 42)) := (Below.refl _ wr).alloc (Nat.le_refl _) _
      have HW := Lib.hid (wstr_c w.heap.size w.heap.size (Lib.byteCells (joinL (xs.take k))) a _ (hsb.below bA) (by omega) (by rw [World.size_alloc]; omega))
      have HXb := Lib.hid (heap_new wr (.cells #[.string a, .bool f] 42))
      clear hsn hxk h hsb
      go_wp2_with fail
      refine HW.out.mono ?_
      rintro e w1 ⟨rfl, hsb1, hk1⟩
      have hB1 : Below w.heap.size w w1 := (hB.alloc lB _).trans hk1.1
      have hxb : w1.heap[wr.heap.size]? = some (.cells #[.string a, .bool f] 42 (0, 0)) := by
        refine hk1.2 wr.heap.size _ HXb.out ?_ ?_
        · simp; omega
        · intro c fz e
          simp at e
      have x1 : w1.cell? ⟨wr.heap.size, 1, none⟩ = some (.bool f) := by rw [cell_of _ _ _ _ hxb]; rfl
      have hal : a.data.toList.length = a.size := by simp
      have ea : Lib.strCells a = Lib.byteCells a.data.toList := rfl
      rw [ea, ← cells_app] at hsb1
      cases f
      · have HD : Hid (Below w.heap.size w w1 ∧ SB w.heap.size w.heap.size (Lib.byteCells (joinL (xs.take (k + 1)))) w1) := Lib.hid ⟨hB1, by
          rw [HS.out]
          simpa [txt] using hsb1⟩
        clear hsb1 hk1 ea hal
        go_wp2
        go_roundw
        case rel => exact ⟨k + 1, by omega, by simp, HD.out.1, HD.out.2⟩
        case measure => (simp [RowKit.intOf]) <;> omega
      · have HW2 := Lib.hid (wbyte_c w.heap.size w.heap.size _ 10 w1 hsb1 (by rw [cells_len, List.length_append, hal]; omega) hB1.size)
        clear hk1 ea hsb1 hal
        go_wp2_with fail
        refine HW2.out.mono ?_
        rintro e w2 ⟨rfl, hsb2, hk2⟩
        have HD : Hid (Below w.heap.size w w2 ∧ SB w.heap.size w.heap.size (Lib.byteCells (joinL (xs.take (k + 1)))) w2) := Lib.hid ⟨hB1.trans hk2.1, by
          rw [HS.out]
          have e1 : Lib.byteCells (joinL (xs.take k) ++ txt (a, true)) = Lib.byteCells (joinL (xs.take k) ++ a.data.toList) ++ [.int .u8 10] := by simp [txt, Lib.byteCells]
          rw [e1]
          exact hsb2⟩
        clear hsb2 hk2
        go_wp2
        go_roundw
        case rel => exact ⟨k + 1, by omega, by simp, HD.out.1, HD.out.2⟩
        case measure => (simp [RowKit.intOf]) <;> omega
    · obtain rfl : k = n := by omega
      have hlt1 : ((k : Int) < k) = False := by simp
      rw [← hlen, List.take_length] at hsb
      have ST := Lib.hid (Try.Builder_String_any_k w.heap.size w.heap.size (joinL xs) wr hsb lB)
      clear hsb
      go_wp2_with fail
      refine ST.out.mono ?_
      rintro e w1 ⟨rfl, _, hB1, _⟩
      have HB := Lib.hid (hB.trans hB1)
      clear hB1
      go_wp2
      go_ret
      exact ⟨rfl, HB.out⟩

end Go.Proofs.Ytkdnnhjoeaoihaa
