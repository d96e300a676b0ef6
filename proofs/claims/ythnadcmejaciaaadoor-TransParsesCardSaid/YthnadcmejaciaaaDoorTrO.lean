/- unline: the bytes that a line's pieces tell. -/
import Derived.Test.YthnadcmejaciaaaDoorTrN
namespace Go.Proofs.YthnadcmejaciaaaDoor
open Go.RowKit
set_option linter.unusedVariables false
set_option linter.unusedSimpArgs false

theorem own_ne {W : World} {B T k m n : Nat} {v : Value} {xs : List Value} {cs : Array Value} {T' : TypeId} {fz : Nat × Nat} (h : W.ownsRow B T k v m xs) (hn : W.heap[n]? = some (.cells cs T' fz)) (hT : T' ≠ T) : v.ownBlock ≠ some n := by
  rcases h.2 with ⟨rfl, rfl⟩ | ⟨g, cap, cur, rfl, hg, hb, _⟩
  · simp [Value.ownBlock]
  · simp only [Value.ownBlock, ne_eq, Option.some.injEq]
    intro e
    subst e
    rw [hn] at hb
    simp at hb
    exact hT hb.2.1
theorem own_set {W : World} {B T k m n : Nat} {v : Value} {xs : List Value} {cs : Array Value} {T' : TypeId} {fz : Nat × Nat} (h : W.ownsRow B T k v m xs) (hn : W.heap[n]? = some (.cells cs T' fz)) (hT : T' ≠ T) (j : Nat) (u : Value) : (W.setCell ⟨n, j, none⟩ u).ownsRow B T k v m xs := by
  refine ⟨h.1, h.2.imp id ?_⟩
  rintro ⟨g, cap, cur, rfl, hg, hb, r⟩
  refine ⟨g, cap, cur, rfl, hg, (Below.heap_setCell W ⟨n, j, none⟩ u g (fun e => ?_)).trans hb, r⟩
  subst e
  rw [hn] at hb
  simp at hb
  exact hT hb.2.1
theorem One.grown {T : TypeId} {W W' : World} {b : Nat} {u v : Value} {B m : Nat} {xs : List Value} (h : One T W b u) (hown : W.ownsRow B 5 1 v m xs) (hg : W.grownBy W' v.ownBlock) (hT : T ≠ 5) : One T W' b u :=
  ⟨(hg.block b h.lt (fun e => own_ne hown h.heap hT e.symm)).trans h.heap⟩

set_option maxRecDepth 100000 in
set_option maxHeartbeats 8000000 in
theorem first_c (n : Nat) (L P : ByteArray) (w : World) (h : One 9 w n (.string L)) :
    Calls Tryd.prog 48 #[.string P, .pointer (some ⟨n, 0, none⟩)] w fun e w' => e = .returned (.bool (P.data.toList.isPrefixOf L.data.toList)) ∧ w' = w := by
  have hc := h.cell
  have HP := Lib.hid (Tryd.strings_HasPrefix L P w)
  obtain ⟨r, hr⟩ : ∃ r, r = P.data.toList.isPrefixOf L.data.toList := ⟨_, rfl⟩
  rw [show Lib.hasPrefix L.data.toList P.data.toList = r from hr.symm] at HP
  rw [← hr]
  clear hr
  go_enter Tryd.func48, Tryd.ntmps48
  go_wp2_with fail
  refine HP.out.mono ?_
  rintro e w' ⟨rfl, rfl⟩
  go_wp2
  go_ret
  exact ⟨rfl, rfl⟩

/-- The number of the first byte whose piece a text begins by. -/
def fstN (l : List UInt8) : Int := match fst l with
  | none => -1
  | some b => b.toNat
theorem fstN_none {l : List UInt8} (h : ∀ j, j < 256 → (pcn j).isPrefixOf l = false) : fstN l = -1 := by
  unfold fstN
  cases hf : fst l with
  | none => rfl
  | some b =>
    have := h b.toNat b.toNat_lt
    rw [pcn_u8, ← Bool.not_eq_true, List.isPrefixOf_iff_prefix] at this
    exact absurd (fst_some hf) this
theorem fstN_some {l : List UInt8} {k : Nat} (hk : k < 256) (h : (pcn k).isPrefixOf l = true) : fstN l = k := by
  unfold fstN
  rw [fst_iff.2 (List.isPrefixOf_iff_prefix.1 h)]
  simp
  omega

set_option maxRecDepth 100000 in
set_option maxHeartbeats 8000000 in
theorem index_c (tb n : Nat) (L : ByteArray) (w : World) (hT : GR 66 w tb (sval pcn)) (h : One 9 w n (.string L)) :
    Calls Tryd.prog 50 #[.slice (some ⟨tb, 0, none⟩) 256 256, .func (.func 48) #[] #[.pointer (some ⟨n, 0, none⟩)]] w fun e w' => e = .returned (.int .i64 (fstN L.data.toList)) ∧ w' = w := by
  have HF := Lib.hid (fun P => first_c n L P w h)
  obtain ⟨l, hl⟩ : ∃ l, l = L.data.toList := ⟨_, rfl⟩
  rw [← hl] at HF ⊢
  clear hl h
  go_enter Tryd.func50, Tryd.ntmps50
  go_wp2
  go_loop [8] (fun i => ∃ k : Nat, k ≤ 256 ∧ i = .int .i64 k ∧ (∀ j, j < k → (pcn j).isPrefixOf l = false)) (fun i => 256 - (intOf i).toNat)
  case atStart => exact ⟨0, by omega, rfl, fun j hj => absurd hj (by omega)⟩
  case round =>
    obtain ⟨k, hk, rfl, hg⟩ := hrel
    have HG := Lib.hid hg
    clear hg
    by_cases hlt : k < 256
    · have hc := hT.cell k hlt
      unfold sval at hc
      have HFK := HF.out ⟨(pcn k).toArray⟩
      simp only at HFK
      cases hp : (pcn k).isPrefixOf l
      · rw [hp] at HFK
        have HFH := Lib.hid HFK
        have HPK := Lib.hid hp
        clear HFK hp
        go_wp2_with fail
        refine HFH.out.mono ?_
        rintro e w' ⟨rfl, rfl⟩
        go_wp2
        go_round
        case rel =>
          refine ⟨k + 1, by omega, by simp, fun j hj => ?_⟩
          rcases (by omega : j < k ∨ j = k) with h | rfl
          · exact HG.out j h
          · exact HPK.out
        case measure => simp [intOf]; omega
      · rw [hp] at HFK
        have HFH := Lib.hid HFK
        have HN := Lib.hid (fstN_some hlt hp)
        clear HFK hp
        go_wp2_with fail
        refine HFH.out.mono ?_
        rintro e w' ⟨rfl, rfl⟩
        go_wp2
        go_ret
        exact ⟨by rw [HN.out]; rfl, rfl⟩
    · obtain rfl : k = 256 := by omega
      have HN := Lib.hid (fstN_none HG.out)
      go_wp2
      go_ret
      exact ⟨by rw [HN.out]; rfl, rfl⟩

def unV (r : Option (List UInt8)) : Value := match r with
  | none => .tuple #[.string ByteArray.empty, .bool false]
  | some p => .tuple #[.string ⟨p.toArray⟩, .bool true]
def lineSize (w : World) (n : Nat) : Nat := match w.cell? ⟨n, 0, none⟩ with
  | some (.string s) => s.size
  | _ => 0
theorem lineSize_of {w : World} {n : Nat} {s : ByteArray} (h : One 9 w n (.string s)) : lineSize w n = s.size := by unfold lineSize; rw [h.cell]
theorem convert_bytes {W : World} {base k : Nat} {v : Value} {l : List UInt8} (h : W.ownsRow base 5 1 v k (l.map bval)) :
    (convert 49 9 v).run Tryd.prog W = .ok (.string ⟨l.toArray⟩) W := by
  have hl : l.length = k := by have := h.1; simpa using this
  rcases h.2 with ⟨rfl, rfl⟩ | ⟨g, cap, cur, rfl, _⟩
  · obtain rfl : l = [] := List.eq_nil_of_length_eq_zero hl
    exact run_convert_bytes_nil W 49 5 Tryd.underlying49 Tryd.underlying5 0 0 _ Tryd.underlying9
  · subst hl
    refine run_convert_bytes_back (P := Tryd.prog) W 49 9 5 ⟨g, 0, none⟩ cap l Tryd.underlying49 Tryd.underlying5 Tryd.underlying9 (fun j hj => ?_)
    have := h.cellAt j (by simpa using hj)
    rw [Addr.add_lit, Nat.zero_add, this]
    simp [bval, List.getElem?_eq_getElem hj]

set_option maxRecDepth 100000 in
set_option maxHeartbeats 8000000 in
theorem unline_c (tb : Nat) (S : ByteArray) (hs : S.size ≤ 100000) (w : World) (hT : GR 66 w tb (sval pcn)) :
    Calls Tryd.prog 38 #[.pointer (some ⟨tb, 0, none⟩), .string S] w fun e w' => e = .returned (unV (unln S.data.toList)) ∧ Below w.heap.size w w' := by
  obtain ⟨i0, hi, hz0, hz1, hz2⟩ := info_parts infoU8
  have hN := One.new 9 w (.string S)
  have hB0 : Below w.heap.size w (w.alloc (.cells #[.string S] 9)) := (Below.refl _ w).alloc (Nat.le_refl _) _
  have htlt := hT.lt
  obtain ⟨l, hl⟩ : ∃ l, l = S.data.toList := ⟨_, rfl⟩
  have hll : l.length = S.size := by rw [hl]; simp
  rw [← hl]
  have HL := Lib.hid hl
  have HLL := Lib.hid hll
  clear hl hll
  go_enter Tryd.func38, Tryd.ntmps38
  go_wp2
  go_loopw [6] (fun v wr => ∃ (done rest : List UInt8) (v' : Value) (R : ByteArray), v = v' ∧ R = ⟨rest.toArray⟩ ∧ One 9 wr w.heap.size (.string R) ∧ wr.ownsRow w.heap.size 5 1 v' done.length (done.map bval) ∧ unln l = (unln rest).map (done ++ ·) ∧ done.length + rest.length ≤ 100000 ∧ Below w.heap.size w wr) (fun _ wr => lineSize wr w.heap.size)
  case atStart =>
    refine ⟨[], l, _, S, rfl, ?_, hN, World.ownsRow_nil _ _ _ _, ?_, ?_, hB0⟩
    · rw [HL.out]
    · cases unln l <;> simp
    · have := HLL.out; simp; omega
  case round =>
    obtain ⟨done, rest, v, R, rfl, hR, hO, hown, hun, hlen, hB⟩ := hrel
    have lB := hB.size
    have hRl : R.data.toList = rest := by rw [hR]
    have hRt : R.toList = rest := by rw [Lib.toList_data]; exact hRl
    have hRs : R.size = rest.length := by rw [hR, ba_size]
    have hc := hO.cell
    have hzz := hO.fz
    by_cases hne : rest = []
    · subst hne
      have e1 : R.toList.isEmpty = true := by rw [hRt]; rfl
      have e2 : (!R.toList.isEmpty) = false := by rw [e1]; rfl
      have e3 : R.toList = [] := hRt
      rw [unln_nil] at hun
      have hcv := convert_bytes hown
      have HU := Lib.hid hun
      clear hR hRl hRt hRs hun
      go_wp2
      go_ret2
      exact ⟨by rw [HU.out]; simp [unV], hB⟩
    · have e1 : R.toList.isEmpty = false := by rw [hRt]; cases rest <;> simp_all
      have e2 : (!R.toList.isEmpty) = true := by rw [e1]; rfl
      have e3 : ¬ R.toList = [] := by rw [hRt]; exact hne
      have hT' := hT.below hB htlt
      have HI := index_c tb w.heap.size R wr hT' hO
      rw [hRl] at HI
      cases hf : fst rest with
      | none =>
        have hfn : fstN rest = -1 := by unfold fstN; rw [hf]
        rw [hfn] at HI
        have HIH := Lib.hid HI
        rw [unln_none hne hf] at hun
        have HU := Lib.hid hun
        clear hR hRl hRt hRs hun hfn HI hf
        go_wp2_with fail
        refine HIH.out.mono ?_
        rintro e w' ⟨rfl, rfl⟩
        go_wp2
        go_ret2
        exact ⟨by rw [HU.out]; rfl, hB⟩
      | some b =>
        have hfn : fstN rest = (b.toNat : Int) := by unfold fstN; rw [hf]
        rw [hfn] at HI
        have HIH := Lib.hid HI
        obtain ⟨r, hr⟩ := fst_some hf
        rw [← hr, unln_pc] at hun
        have hbl := b.toNat_lt
        have hpl := pc_len b
        have hrl := congrArg List.length hr
        rw [List.length_append] at hrl
        have hw8 := u8w b.toNat hbl
        obtain ⟨R2, hR2⟩ : ∃ R2 : ByteArray, R2 = ⟨r.toArray⟩ := ⟨_, rfl⟩
        obtain ⟨P, hP⟩ : ∃ P : ByteArray, P = ⟨(pc b).toArray⟩ := ⟨_, rfl⟩
        have hPs : P.size = (pc b).length := by rw [hP, ba_size]
        have hsl := slice_from R P.size (by omega) R2 (by rw [hR2, hRl, ← hr, hPs, List.drop_left])
        have HU := Lib.hid hun
        have HR2 := Lib.hid hR2
        have HP := Lib.hid hP
        have HRL := Lib.hid hrl
        have HRS := Lib.hid hRs
        have HPS := Lib.hid hPs
        have HO := Lib.hid hO
        have hdl : done.length ≤ 100000 := by omega
        have HLN := Lib.hid hlen
        have htb : tb ≠ w.heap.size := by omega
        clear hR hRl hRt hun hfn HI hf hr hrl hRs hPs hR2 hP hlen hne hT' hO
        go_wp2_with fail
        refine HIH.out.mono ?_
        rintro e w' ⟨rfl, rfl⟩
        go_wp2_with (at_builtin; refine wpList_append_own _ rfl _ _ 49 rfl w.heap.size 5 i0 (.int .u8 0) 1 1 Tryd.underlying49 hi hz0 hz1 hz2 rfl (by decide) _ _ _ rfl (hown.alloc _) ⟨w'.heap.size, 0, none⟩ 1 1 [bval b] rfl rfl ?c1 ?c2 ?c3 ?c4 ?c5 ?_)
        case c1 =>
          intro j u hj
          rw [Addr.add_lit, Nat.zero_add, cell_of _ _ _ _ (heap_new w' (.cells #[.int .u8 b.toNat] 5))]
          simpa [bval] using hj
        case c2 => intro u hu; simp at hu; subst hu; rfl
        case c3 => unfold maxLen; omega
        case c4 => omega
        case c5 => simp; omega
        intro v2 w2 hown2 hgrow2 _
        have hB2 : Below w.heap.size w w2 := (hB.alloc lB _).grown hgrow2 (by simp; omega) (fun k hk => (hown.lt k hk).1)
        have hO2 := (HO.out.alloc (.cells #[.int .u8 b.toNat] 5)).grown (hown.alloc _) hgrow2 (by decide)
        have d1 := hO2.cell
        have d2 := hO2.fz
        have hT2 := hT.below hB2 htlt
        have d3 := hT2.cell b.toNat hbl
        simp only [sval] at d3
        rw [pcn_u8, ← HP.out] at d3
        have HO2 := Lib.hid hO2
        have HOW := Lib.hid hown2
        have HB2 := Lib.hid hB2
        clear hown2 hgrow2 hO2 hB2 hT2 hown hB
        go_wp2_with fail
        go_region
        go_wp2
        have hO3 : One 9 (w2.setCell ⟨w.heap.size, 0, none⟩ (.string R2)).drew w.heap.size (.string R2) := ⟨(HO2.out.set (.string R2)).heap⟩
        go_roundw
        case rel =>
          refine ⟨done ++ [b], r, v2, R2, rfl, HR2.out, hO3, ?_, ?_, ?_, (HB2.out.setCell (p := ⟨w.heap.size, 0, none⟩) (Nat.le_refl _) _).drew⟩
          · have := own_set HOW.out HO2.out.heap (by decide) 0 (.string R2)
            rw [List.length_append, List.map_append]
            exact this
          · rw [HU.out]
            cases unln r <;> simp
          · have := HLN.out; have := HRL.out; simp; omega
        case measure =>
          rw [lineSize_of HO.out, lineSize_of hO3, HRS.out, HR2.out, ba_size]
          have := HRL.out
          omega

end Go.Proofs.YthnadcmejaciaaaDoor
