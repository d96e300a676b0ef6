/- Apply; the reference's Apply. -/
import Derived.Test.YthnadcmejaciaaaDoorTrD
import Derived.Laws.BytesArg
import Derived.Laws.IdiomStrings
import Derived.Lib.ConvBytes
namespace Go.Proofs.YthnadcmejaciaaaDoor
open Go.RowKit
set_option linter.unusedVariables false
set_option linter.unusedSimpArgs false

def bval (c : UInt8) : Value := .int .u8 c.toNat
/-- A row of bytes that a text was turned into. -/
def BR (W : World) (b : Nat) (l : List UInt8) : Prop := ∃ (z : List Value) (m : Nat), W.heap[b]? = some (.cells (l.map bval ++ z).toArray 5 (m, m + 1)) ∧ l.length ≤ m
theorem BR.lt {W : World} {b : Nat} {l : List UInt8} (h : BR W b l) : b < W.heap.size := by
  obtain ⟨z, m, h, _⟩ := h
  exact (Array.getElem?_eq_some_iff.1 h).1
theorem BR.cell {W : World} {b : Nat} {l : List UInt8} (h : BR W b l) (j : Nat) (hj : j < l.length) : W.cell? ⟨b, j, none⟩ = some (.int .u8 l[j].toNat) := by
  obtain ⟨z, m, h, _⟩ := h
  rw [cell_of _ _ _ _ h, List.getElem?_toArray, List.getElem?_append_left (by simpa using hj)]
  simp [bval, List.getElem?_eq_getElem hj]
theorem BR.fz {W : World} {b : Nat} {l : List UInt8} (h : BR W b l) (j : Nat) (hj : j < l.length) : W.frozen? ⟨b, j, none⟩ = false := by
  obtain ⟨z, m, h, hm⟩ := h
  simp [World.frozen?, h]
  omega
theorem BR.set {W : World} {b : Nat} {l : List UInt8} (h : BR W b l) (j : Nat) (c : UInt8) (hj : j < l.length) : BR (W.setCell ⟨b, j, none⟩ (.int .u8 c.toNat)) b (l.set j c) := by
  obtain ⟨z, m, h, hm⟩ := h
  refine ⟨z, m, ?_, by simpa using hm⟩
  rw [show (W.setCell ⟨b, j, none⟩ (.int .u8 c.toNat)).heap[b]? = some (.cells ((l.map bval ++ z).toArray.setIfInBounds j (.int .u8 c.toNat)) 5 (m, m + 1)) by simp [World.setCell, Array.getElem?_modify, h]]
  congr 2
  rw [List.setIfInBounds_toArray, List.set_append_left _ _ (by simpa using hj), List.map_set]
  rfl
theorem BR.below {W W' : World} {b B : Nat} {l : List UInt8} (h : BR W b l) (hB : Below B W W') (hb : b < B) : BR W' b l := by
  obtain ⟨z, m, h, hm⟩ := h
  exact ⟨z, m, (hB.block b hb).trans h, hm⟩
theorem BR.made (w : World) (s : ByteArray) : BR (Lib.bytesWorld w 5 s) w.heap.size s.data.toList := by
  refine ⟨List.replicate (grownCap w s.size 0 5 - s.size) (.int .u8 0), (Lib.bytesCells w 5 s).size, (Lib.bytesWorld_at_new w 5 s).trans ?_, ?_⟩
  · congr 2
    unfold Lib.bytesCells
    apply Array.ext'
    simp [bval]
  · simp [Lib.bytesCells]
theorem below_bytes (w : World) (e : TypeId) (s : ByteArray) : Below w.heap.size w (Lib.bytesWorld w e s) :=
  ⟨rfl, rfl, rfl, by rw [Lib.bytesWorld_size]; omega, fun k hk => Lib.bytesWorld_at_old w e s k hk⟩

theorem set_map (l : List UInt8) (f : UInt8 → UInt8) (k : Nat) (hk : k < l.length) : ((l.take k).map f ++ l.drop k).set k (f l[k]) = (l.take (k + 1)).map f ++ l.drop (k + 1) := by
  have hl : ((l.take k).map f).length = k := by simp; omega
  rw [List.set_append_right _ _ (by omega), hl, Nat.sub_self, List.drop_eq_getElem_cons hk, List.set_cons_zero, List.take_succ_eq_append_getElem hk, List.map_append, List.append_assoc]
  rfl

theorem mix_at (l : List UInt8) (f : UInt8 → UInt8) (k : Nat) (hk : k < l.length) (h : k < ((l.take k).map f ++ l.drop k).length) : ((l.take k).map f ++ l.drop k)[k]'h = l[k] := by
  have hl : ((l.take k).map f).length = k := by simp; omega
  rw [List.getElem_append_right (by omega)]
  simp only [hl, Nat.sub_self, List.getElem_drop, Nat.add_zero]

set_option maxRecDepth 100000 in
set_option maxHeartbeats 4000000 in
theorem apply_c (f : Nat → UInt8) (s : ByteArray) (hs : s.size ≤ 100000) (w : World) :
    Calls Tryd.prog 13 #[.agg (garr (mv f)), .string s] w fun e w' => e = .returned (.string ⟨(s.data.toList.map fun b => f b.toNat).toArray⟩) ∧ Below w.heap.size w w' := by
  obtain ⟨hz, hsz⟩ := zero_of_info (P := Tryd.prog) infoM
  obtain ⟨l, hl⟩ : ∃ l, l = s.data.toList := ⟨_, rfl⟩
  have hll : l.length = s.size := by rw [hl]; simp
  have hM0 := GR.new 23 w (mv f)
  have hR0 := BR.made (w.alloc (.cells (garr (mv f)) 23)) s
  have hB0 := below_bytes (w.alloc (.cells (garr (mv f)) 23)) 5 s
  have hcv := Lib.run_convert_string_bytes (P := Tryd.prog) (w.alloc (.cells (garr (mv f)) 23)) 9 49 5 s Tryd.underlying9 Tryd.underlying49 Tryd.underlying5
  rw [← hl] at hR0 ⊢
  rw [World.size_alloc] at hcv hR0 hB0
  obtain ⟨W0, hW0⟩ : ∃ W0, W0 = Lib.bytesWorld (w.alloc (.cells (garr (mv f)) 23)) 5 s := ⟨_, rfl⟩
  rw [← hW0] at hcv hR0 hB0
  have hM1 := hM0.below hB0 (by omega)
  have hBW : Below w.heap.size w W0 := ((Below.refl _ w).alloc (Nat.le_refl _) _).trans (hB0.mono (by omega))
  obtain ⟨cap, hcap⟩ : ∃ c, c = grownCap (w.alloc (.cells (garr (mv f)) 23)) s.size 0 5 := ⟨_, rfl⟩
  rw [← hcap] at hcv
  have HL := Lib.hid hl
  have HLL := Lib.hid hll
  clear hcap hW0 hB0 hM0 hl hll
  go_enter Tryd.func13, Tryd.ntmps13
  go_wp2
  clear hcv
  go_loopw [12] (fun i wr => ∃ k : Nat, k ≤ s.size ∧ i = .int .i64 k ∧ GR 23 wr w.heap.size (mv f) ∧ BR wr (w.heap.size + 1) ((l.take k).map (fun b => f b.toNat) ++ l.drop k) ∧ Below w.heap.size w wr) (fun i _ => s.size - (intOf i).toNat)
  case atStart => exact ⟨0, by omega, rfl, hM1, by simpa using hR0, hBW⟩
  case round =>
    obtain ⟨k, hk, rfl, h0, h1, hB⟩ := hrel
    have hcur : ((l.take k).map (fun b => f b.toNat) ++ l.drop k).length = s.size := by
      have := HLL.out
      simp; omega
    by_cases hlt : k < s.size
    · have hkl : k < l.length := by have := HLL.out; omega
      have hc := h1.cell k (by omega)
      have hf := h1.fz k (by omega)
      have hg := mix_at l (fun b => f b.toNat) k hkl (by omega)
      rw [hg] at hc
      have hS := Lib.hid (h1.set k (f l[k].toNat) (by omega))
      have hsm := set_map l (fun b => f b.toNat) k hkl
      have HSM := Lib.hid hsm
      obtain ⟨c, hcd⟩ : ∃ c, c = l[k] := ⟨_, rfl⟩
      have hcl := c.toNat_lt
      rw [← hcd] at hc hS
      have hm := h0.cell c.toNat hcl
      unfold mv at hm
      have HCD := Lib.hid hcd
      clear hg hsm hcd hcur
      go_wp2
      go_roundw
      case rel =>
        refine ⟨k + 1, by omega, by simp, h0.other (by simp) _, ?_, hB.setCell (p := ⟨w.heap.size + 1, k, none⟩) (by simp) _⟩
        rw [← HSM.out, ← HCD.out]
        exact hS.out
      case measure => simp [intOf]; omega
    · obtain rfl : k = s.size := by omega
      have e1 : (l.take s.size).map (fun b => f b.toNat) ++ l.drop s.size = l.map (fun b => f b.toNat) := by
        rw [List.take_of_length_le (by have := HLL.out; omega), List.drop_eq_nil_of_le (by have := HLL.out; omega)]; simp
      rw [e1] at h1 hcur
      have hlt1 : ((s.size : Int) < s.size) = False := by simp
      have hbk := run_convert_bytes_back (P := Tryd.prog) wr 49 9 5 ⟨w.heap.size + 1, 0, none⟩ cap (l.map fun b => f b.toNat) Tryd.underlying49 Tryd.underlying5 Tryd.underlying9 (fun j hj => by
        rw [Addr.add_lit, Nat.zero_add]
        exact h1.cell j hj)
      rw [hcur] at hbk
      clear e1 hcur
      go_wp2
      go_ret
      exact ⟨rfl, hB⟩

theorem rone (c : UInt8) (b : Nat) (W : World) (hc : W.cell? ⟨b, 0, none⟩ = some (.int .u8 c.toNat)) :
    (convert 49 9 (.slice (some ⟨b, 0, none⟩) 1 1)).run Tryd.prog W = .ok (.string ⟨#[c]⟩) W :=
  run_convert_bytes_back (P := Tryd.prog) W 49 9 5 ⟨b, 0, none⟩ 1 [c] Tryd.underlying49 Tryd.underlying5 Tryd.underlying9 (fun j hj => by
    obtain rfl : j = 0 := by simpa using hj
    rw [Addr.add_lit, Nat.zero_add]
    exact hc)

set_option maxRecDepth 100000 in
set_option maxHeartbeats 4000000 in
theorem rapply_c (f : Nat → UInt8) (s : ByteArray) (hs : s.size ≤ 100000) (w : World) :
    Calls Tryd.prog 14 #[.agg (garr (mv f)), .string s] w fun e w' => e = .returned (.string ⟨(s.data.toList.map fun b => f b.toNat).toArray⟩) ∧ Below w.heap.size w w' := by
  obtain ⟨hz, hsz⟩ := zero_of_info (P := Tryd.prog) infoR
  obtain ⟨l, hl⟩ : ∃ l, l = s.data.toList := ⟨_, rfl⟩
  have hll : l.length = s.size := by rw [hl]; simp
  have hM0 := GR.new 28 w (mv f)
  have hB0 := (Below.refl _ w).alloc (Nat.le_refl _) (.cells (garr (mv f)) 28)
  rw [← hl]
  have HL := Lib.hid hl
  have HLL := Lib.hid hll
  clear hl hll
  go_enter Tryd.func14, Tryd.ntmps14
  go_wp2
  go_loopw [5, 6] (fun o i wr => ∃ (k : Nat) (t : ByteArray), k ≤ s.size ∧ i = .int .i64 k ∧ o = .string t ∧ t = ⟨((l.take k).map (fun b => f b.toNat)).toArray⟩ ∧ GR 28 wr w.heap.size (mv f) ∧ Below w.heap.size w wr) (fun _ i _ => s.size - (intOf i).toNat)
  case atStart => exact ⟨0, _, by omega, rfl, rfl, by simp, hM0, hB0⟩
  case round =>
    obtain ⟨k, t, hk, rfl, rfl, ht, h0, hB⟩ := hrel
    have lB := hB.size
    have hts : t.size ≤ k := by rw [ht]; simp [ByteArray.size]; omega
    have HT := Lib.hid ht
    clear ht
    by_cases hlt : k < s.size
    · have hkl : k < l.length := by have := HLL.out; omega
      obtain ⟨c, hcd⟩ : ∃ c, c = s[k] := ⟨_, rfl⟩
      have hcl := c.toNat_lt
      have hm := h0.cell c.toNat hcl
      unfold mv at hm
      have hcl2 : l[k] = c := by
        have h1 : l[k]? = s.data.toList[k]? := by rw [HL.out]
        rw [List.getElem?_eq_getElem hkl, List.getElem?_eq_getElem (by simpa using hlt)] at h1
        rw [hcd]; exact Option.some.inj h1
      have hsk : s[k] = c := hcd.symm
      have hb1 : (9223372036854775807 < t.size + (⟨#[f c.toNat]⟩ : ByteArray).size) = False := by
        rw [show (⟨#[f c.toNat]⟩ : ByteArray).size = 1 from rfl]; simp; omega
      have hb2 : (9223372036854775807 < (t.size : Int) + ((⟨#[f c.toNat]⟩ : ByteArray).size : Int)) = False := by
        rw [show (⟨#[f c.toNat]⟩ : ByteArray).size = 1 from rfl]; simp; omega
      have HCL := Lib.hid hcl2
      have hrow := rone (f c.toNat) wr.heap.size (wr.alloc (.cells #[.int .u8 (f c.toNat).toNat] 5)) (by rw [cell_of _ _ _ _ (heap_new _ _)]; rfl)
      obtain ⟨C, hC⟩ : ∃ C : ByteArray, C = ⟨#[f c.toNat]⟩ := ⟨_, rfl⟩
      rw [← hC] at hb1 hb2 hrow
      have HC := Lib.hid hC
      have h0' := h0.alloc (.cells #[.int .u8 (f c.toNat).toNat] 5)
      clear hcl2 hcd hC
      go_wp2
      go_roundw
      case rel =>
        refine ⟨k + 1, _, by omega, by simp, rfl, ?_, h0', hB.alloc lB _⟩
        rw [HT.out, HC.out]
        apply ByteArray.ext
        apply Array.ext'
        rw [List.take_succ_eq_append_getElem hkl, HCL.out]
        simp
      case measure => simp [intOf]; omega
    · obtain rfl : k = s.size := by omega
      have hlt1 : ((s.size : Int) < s.size) = False := by simp
      go_wp2
      go_ret
      refine ⟨?_, hB⟩
      rw [HT.out, List.take_of_length_le (by have := HLL.out; omega)]
      rfl

end Go.Proofs.YthnadcmejaciaaaDoor
