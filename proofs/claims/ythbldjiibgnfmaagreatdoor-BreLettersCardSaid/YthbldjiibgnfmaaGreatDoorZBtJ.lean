/- BreLetters: the walk. -/
import Derived.Test.YthbldjiibgnfmaaGreatDoorZBtI
import Derived.Test.YthbldjiibgnfmaaGreatDoorZBtH
import Derived.Test.YthbldjiibgnfmaaGreatDoorZSetUo
namespace Go.Proofs.YthbldjiibgnfmaaGreatDoor
open Go.RowKit Go.Lib
set_option linter.unusedVariables false
set_option linter.unusedSimpArgs false

theorem nodes_one {w : World} {b : Nat} {x : Nd} {T : TypeId} (h : w.heap[b]? = some (.cells x.cells T (0, 0))) : NodesAt w b 0 [x] := by
  refine ⟨(Array.getElem?_eq_some_iff.1 h).1, fun i y hy j v hv => ?_⟩
  cases i with
  | zero =>
    cases hy
    rw [cell_of _ _ _ _ h]
    simpa using hv
  | succ i => simp at hy
/-- What the reference tells of one letter. -/
theorem oneL_c (c : UInt8) (b : Nat) (w : World) (h : NodesAt w b 0 [letNd c]) :
    Calls Tryz.prog 14 #[.slice (some ⟨b, 0, none⟩) 1 1] w fun e w' => e = .returned (.string ⟨(oneL c).toArray⟩) ∧ Below w.heap.size w w' := by
  have hp : IsPat [letNd c] (.leaf (letNd c)) := canon_pat (t := .leaf (letNd c)) ⟨letNd_nd c, byNd_fits _, .inl rfl⟩ (by show 1 ≤ 120; decide) (by
    have := chain_num c [] (0, fun _ => false)
    show (num (chainT [c]) (0, fun _ => false)).isSome = true
    rw [this]; rfl)
  exact rtext_inq b 0 1 1 [letNd c] rfl _ hp (fun i x hx => by
    have : x = letNd c := by simpa using List.mem_of_getElem? hx
    rw [this]; exact byNd_fits _) (fun i x hx => by
    have : x = letNd c := by simpa using List.mem_of_getElem? hx
    rw [this]; rfl) w h

set_option maxRecDepth 100000 in
set_option maxHeartbeats 40000000 in
theorem letters_wide (s : ByteArray) (hs : 40 < s.size) (w : World) (hw : Fit5 w) :
    Calls Tryz.prog 5 #[.string s] w fun e w' => e = .returned (.bool true) ∧ Below w.heap.size w w' := by
  have HS := Lib.hid (shown4_c w hw)
  have h1 : ((40 : Int) < s.size) = True := by simp; omega
  go_enter Tryz.func5, Tryz.ntmps5
  go_wp2_with fail
  refine HS.out.mono ?_
  rintro e w1 ⟨rfl, hB1⟩
  go_wp2
  go_ret
  exact ⟨rfl, hB1⟩
set_option maxRecDepth 100000 in
set_option maxHeartbeats 40000000 in
theorem letters_none (w : World) (hw : Fit5 w) :
    Calls Tryz.prog 5 #[.string ⟨#[]⟩] w fun e w' => e = .returned (.bool true) ∧ Below w.heap.size w w' := by
  have HS := Lib.hid (shown4_c w hw)
  go_enter Tryz.func5, Tryz.ntmps5
  go_wp2_with fail
  refine HS.out.mono ?_
  rintro e w1 ⟨rfl, hB1⟩
  go_wp2
  go_ret
  exact ⟨rfl, hB1⟩

/-- What holds at the head of the loop over the letters. -/
structure LAt (w : World) (l : List UInt8) (k : Nat) (W : ByteArray) (wr : World) : Prop where
  kl : k ≤ l.length
  let' : ∀ j c, j < k → l[j]? = some c → isLet c = true
  more : k < l.length → W.data.toList ++ text (chainT (l.drop k)) = text (chainT l)
  all : k = l.length → W.data.toList = text (chainT l)
  sz : W.size ≤ 700 * k
  bel : Below w.heap.size w wr
set_option maxRecDepth 100000 in
set_option maxHeartbeats 40000000 in
theorem letters_in (c0 : UInt8) (tl : List UInt8) (hl : tl.length < 40) (w : World) (hw : Fit5 w) :
    Calls Tryz.prog 5 #[.string ⟨(c0 :: tl).toArray⟩] w fun e w' => e = .returned (.bool true) ∧ Below w.heap.size w w' := by
  have HS := Lib.hid (shown4_c w hw)
  have HW := Lib.hid fun (w' : World) (hB : Below w.heap.size w w') => hw.below hB
  have HRD := Lib.hid fun h => letters_read c0 tl h (by omega)
  have hsz : (⟨(c0 :: tl).toArray⟩ : ByteArray).size = (c0 :: tl).length := by simp [ByteArray.size]
  have hemp : (c0 :: tl).isEmpty = false := rfl
  have hll : (c0 :: tl).length ≤ 40 := by simp only [List.length_cons]; omega
  have hl1 : 1 ≤ (c0 :: tl).length := by simp only [List.length_cons]; omega
  obtain ⟨l, hl0⟩ : ∃ l, l = c0 :: tl := ⟨_, rfl⟩
  rw [← hl0] at HRD hsz hemp hll hl1 ⊢
  clear hl0 hl hw
  have h40 : ((40 : Int) < l.length) = False := by simp; omega
  have H0 : LAt w l 0 ⟨#[]⟩ w := ⟨Nat.zero_le _, fun j c hj => absurd hj (by omega), fun _ => by (rw [List.drop_zero]; rfl), fun h => absurd h (by omega), by decide, Below.refl _ _⟩
  have HL0 := Lib.hid fun w1 (hB : Below w.heap.size w w1) => (⟨H0.kl, H0.let', H0.more, H0.all, H0.sz, hB⟩ : LAt w l 0 ⟨#[]⟩ w1)
  clear H0
  go_enter Tryz.func5, Tryz.ntmps5
  go_wp2_with fail
  refine HS.out.mono ?_
  rintro e w1 ⟨rfl, hB1⟩
  have HL1 := Lib.hid (HL0.out w1 hB1)
  clear HS HL0 hB1
  go_wp2_with fail
  go_loopw [3, 4] (fun sv iv wr => ∃ (k : Nat) (W : ByteArray), sv = .string W ∧ iv = .int .i64 (k : Int) ∧ LAt w l k W wr) (fun _ iv _ => l.length - (RowKit.intOf iv).toNat)
  case atStart => exact ⟨0, ⟨#[]⟩, rfl, rfl, HL1.out⟩
  case round =>
    clear HL1
    obtain ⟨k, W, rfl, rfl, hA⟩ := hrel
    have hk := hA.kl
    have hWs := hA.sz
    have HA := Lib.hid hA
    clear hA
    by_cases hlt : k < l.length
    · have zlt : ((k : Int) < l.length) = True := by simp; omega
      obtain ⟨c, hc⟩ : ∃ c, l[k]? = some c := ⟨_, List.getElem?_eq_getElem hlt⟩
      have hix := fun W => ixl_c l k c hc W
      have hcl := c.toNat_lt
      rcases (by omega : (c.toNat < 48) ∨ (48 ≤ c.toNat ∧ c.toNat ≤ 57) ∨ (58 ≤ c.toNat ∧ c.toNat ≤ 96) ∨ (97 ≤ c.toNat ∧ c.toNat ≤ 122) ∨ (123 ≤ c.toNat)) with hr | hr | hr | hr | hr
      · have z97 : ((c.toNat : Int) < 97) = True := by simp; omega
        have z48 : ((c.toNat : Int) < 48) = True := by simp; omega
        go_wp2
        go_ret
        exact ⟨rfl, HA.out.bel⟩
      · have z97 : ((c.toNat : Int) < 97) = True := by simp; omega
        have z48 : ((c.toNat : Int) < 48) = False := by simp; omega
        have z57 : ((57 : Int) < (c.toNat : Int)) = False := by simp; omega
        have hlet : isLet c = true := by
          unfold isLet
          simp only [Bool.or_eq_true, Bool.and_eq_true, decide_eq_true_iff]
          omega
        have HNEW := Lib.hid (fun j d (hj : j < k + 1) hd => by
          by_cases e : j = k
          · subst e; rw [hc] at hd; cases hd; exact hlet
          · exact HA.out.let' j d (by omega) hd : ∀ j d, j < k + 1 → l[j]? = some d → isLet d = true)
        have HST := Lib.hid fun w h => want_step l k c hc w h
        clear hlet
        by_cases hlast : k + 1 = l.length
        · have hst := HST.out W.data.toList (HA.out.more hlt)
          obtain ⟨X, hX, hXl⟩ := oneL_head c
          obtain ⟨TX, hTX⟩ : ∃ B : ByteArray, B = ⟨(oneL c).toArray⟩ := ⟨_, rfl⟩
          obtain ⟨XX, hXX⟩ : ∃ B : ByteArray, B = ⟨X.toArray⟩ := ⟨_, rfl⟩
          have hXd : XX.data.toList = X := by rw [hXX]
          have hXs : XX.size ≤ 600 := by rw [hXX]; simpa [ByteArray.size] using hXl
          have hsl : ∀ W, (Instr.slice 9 (.string TX) (some (.int .i64 1)) none none).run Tryz.prog W = .ok (.string XX) W := fun W => by
            have := sld_c (oneL c) 1 (by rw [hX]; simp) W
            rw [hX] at this
            rw [hTX, hX, hXX]
            exact this
          have hs1 : ∀ W, (Instr.slice 9 (.string ⟨l.toArray⟩) (some (.int .i64 (k : Int))) (some (.int .i64 ((k : Int) + 1))) none).run Tryz.prog W = .ok (.string ⟨#[c]⟩) W := fun W => by
            have := slice_two l (by omega) k 1 (by omega) W
            rw [show (l.drop k).take 1 = [c] by
              obtain ⟨h1, h2⟩ := List.getElem?_eq_some_iff.1 hc
              rw [List.drop_eq_getElem_cons h1, h2]; rfl] at this
            exact this
          obtain ⟨V, hV⟩ : ∃ V, V = bv (inS ⟨#[c]⟩ 1) := ⟨_, rfl⟩
          obtain ⟨G, hG⟩ : ∃ G, G = rg c.toNat c.toNat := ⟨_, rfl⟩
          have hof : ∀ w, Calls Tryz.prog 16 #[.string ⟨#[c]⟩] w fun e w' => e = .returned V ∧ Below w.heap.size w w' := fun w => by
            have := rof_c ⟨#[c]⟩ (by simp [ByteArray.size]) w
            rw [hV]
            exact this
          have hwd : ∀ w, Calls Tryz.prog 15 #[V] w fun e w' => e = .returned (.agg #[.int .u64 (wd G 0), .int .u64 (wd G 1), .int .u64 (wd G 2), .int .u64 (wd G 3)]) ∧ Below w.heap.size w w' := fun w => by
            have h := words_c (inS ⟨#[c]⟩ 1) w
            have e : sv (inS ⟨#[c]⟩ 1) = sv G := sv_congr fun i hi => by
              rw [hG, Bool.eq_iff_iff]
              simp [inS, rg]
              omega
            rw [hV]
            rw [e] at h
            exact h
          have hln : (letNd c).cells = #[.int .i64 1, .int .u64 (wd G 0), .int .u64 (wd G 1), .int .u64 (wd G 2), .int .u64 (wd G 3), .int .i64 0, .int .i64 0, .int .i64 0, .int .i64 0, .int .i64 0] := by rw [hG]; rfl
          have hone : ∀ b w, w.heap[b]? = some (.cells #[.int .i64 1, .int .u64 (wd G 0), .int .u64 (wd G 1), .int .u64 (wd G 2), .int .u64 (wd G 3), .int .i64 0, .int .i64 0, .int .i64 0, .int .i64 0, .int .i64 0] 47 (0, 0)) → Calls Tryz.prog 14 #[.slice (some ⟨b, 0, none⟩) 1 1] w fun e w' => e = .returned (.string TX) ∧ Below w.heap.size w w' := fun b w h => by
            rw [hTX]
            rw [← hln] at h
            exact oneL_c c b w (nodes_one h)
          have hkl : k + 1 = l.length := by omega
          have zk : ((k : Int) < (l.length : Int) - 1) = False := by simp; omega
          have hW' : (W ++ (⟨#[91]⟩ ++ XX) : ByteArray).data.toList = W.data.toList ++ oneL c := by rw [hX, ← hXd]; simp
          have hnext := Lib.hid fun w3 (hB : Below w.heap.size w w3) => (⟨by omega, HNEW.out, fun h => absurd h (by omega), fun _ => by (rw [hW']; exact hst.2 hkl), by (rw [ByteArray.size_append, ByteArray.size_append, show (⟨#[91]⟩ : ByteArray).size = 1 from rfl]; omega), hB⟩ : LAt w l (k + 1) (W ++ (⟨#[91]⟩ ++ XX)) w3)
          have ew1 : IntKind.i64.wrap ((l.length : Int) - 1) = (l.length : Int) - 1 := by simp [IntKind.wrap, IntKind.signed, IntKind.bits]; omega
          have y1 : (9223372036854775807 < 1 + XX.size) = False := by simp; omega
          have y2 : (9223372036854775807 < 1 + (1 + XX.size)) = False := by simp; omega
          have y3 : (9223372036854775807 < W.size + (1 + XX.size)) = False := by simp; omega
          have y4 : (9223372036854775807 < W.size + (1 + (1 + XX.size))) = False := by simp; omega
          have HOF := Lib.hid hof
          have HWD := Lib.hid hwd
          have HON := Lib.hid hone
          have HB0 := Lib.hid HA.out.bel
          clear hof hwd hone hst hX hXl hTX hXX hXd hV hG hln hW' HA HST HNEW hc
          go_wp2_with fail
          refine (HOF.out _).mono ?_
          rintro e w2 ⟨rfl, hB2⟩
          have b2 := HB0.out.trans (hB2.mono HB0.out.size)
          clear HOF hB2
          go_wp2_with fail
          refine (HWD.out _).mono ?_
          rintro e w3 ⟨rfl, hB3⟩
          have b3 := b2.trans (hB3.mono b2.size)
          have b4 := b3.alloc b3.size (.cells #[.int .i64 1, .int .u64 (wd G 0), .int .u64 (wd G 1), .int .u64 (wd G 2), .int .u64 (wd G 3), .int .i64 0, .int .i64 0, .int .i64 0, .int .i64 0, .int .i64 0] 47)
          have HT := Lib.hid (HON.out w3.heap.size _ (heap_new w3 (.cells #[.int .i64 1, .int .u64 (wd G 0), .int .u64 (wd G 1), .int .u64 (wd G 2), .int .u64 (wd G 3), .int .i64 0, .int .i64 0, .int .i64 0, .int .i64 0, .int .i64 0] 47)))
          clear HWD hB3 HON b2 b3
          go_wp2_with fail
          refine HT.out.mono ?_
          rintro e w5 ⟨rfl, hB5⟩
          have HN := Lib.hid (hnext.out _ (b4.trans (hB5.mono b4.size)))
          clear HT hB5 b4 hnext
          go_wp2
          go_roundw
          case rel => exact ⟨k + 1, _, rfl, rfl, HN.out⟩
          case measure => (simp [RowKit.intOf] <;> omega)
        · have hst := HST.out W.data.toList (HA.out.more hlt)
          obtain ⟨X, hX, hXl⟩ := oneL_head c
          obtain ⟨TX, hTX⟩ : ∃ B : ByteArray, B = ⟨(oneL c).toArray⟩ := ⟨_, rfl⟩
          obtain ⟨XX, hXX⟩ : ∃ B : ByteArray, B = ⟨X.toArray⟩ := ⟨_, rfl⟩
          have hXd : XX.data.toList = X := by rw [hXX]
          have hXs : XX.size ≤ 600 := by rw [hXX]; simpa [ByteArray.size] using hXl
          have hsl : ∀ W, (Instr.slice 9 (.string TX) (some (.int .i64 1)) none none).run Tryz.prog W = .ok (.string XX) W := fun W => by
            have := sld_c (oneL c) 1 (by rw [hX]; simp) W
            rw [hX] at this
            rw [hTX, hX, hXX]
            exact this
          have hs1 : ∀ W, (Instr.slice 9 (.string ⟨l.toArray⟩) (some (.int .i64 (k : Int))) (some (.int .i64 ((k : Int) + 1))) none).run Tryz.prog W = .ok (.string ⟨#[c]⟩) W := fun W => by
            have := slice_two l (by omega) k 1 (by omega) W
            rw [show (l.drop k).take 1 = [c] by
              obtain ⟨h1, h2⟩ := List.getElem?_eq_some_iff.1 hc
              rw [List.drop_eq_getElem_cons h1, h2]; rfl] at this
            exact this
          obtain ⟨V, hV⟩ : ∃ V, V = bv (inS ⟨#[c]⟩ 1) := ⟨_, rfl⟩
          obtain ⟨G, hG⟩ : ∃ G, G = rg c.toNat c.toNat := ⟨_, rfl⟩
          have hof : ∀ w, Calls Tryz.prog 16 #[.string ⟨#[c]⟩] w fun e w' => e = .returned V ∧ Below w.heap.size w w' := fun w => by
            have := rof_c ⟨#[c]⟩ (by simp [ByteArray.size]) w
            rw [hV]
            exact this
          have hwd : ∀ w, Calls Tryz.prog 15 #[V] w fun e w' => e = .returned (.agg #[.int .u64 (wd G 0), .int .u64 (wd G 1), .int .u64 (wd G 2), .int .u64 (wd G 3)]) ∧ Below w.heap.size w w' := fun w => by
            have h := words_c (inS ⟨#[c]⟩ 1) w
            have e : sv (inS ⟨#[c]⟩ 1) = sv G := sv_congr fun i hi => by
              rw [hG, Bool.eq_iff_iff]
              simp [inS, rg]
              omega
            rw [hV]
            rw [e] at h
            exact h
          have hln : (letNd c).cells = #[.int .i64 1, .int .u64 (wd G 0), .int .u64 (wd G 1), .int .u64 (wd G 2), .int .u64 (wd G 3), .int .i64 0, .int .i64 0, .int .i64 0, .int .i64 0, .int .i64 0] := by rw [hG]; rfl
          have hone : ∀ b w, w.heap[b]? = some (.cells #[.int .i64 1, .int .u64 (wd G 0), .int .u64 (wd G 1), .int .u64 (wd G 2), .int .u64 (wd G 3), .int .i64 0, .int .i64 0, .int .i64 0, .int .i64 0, .int .i64 0] 47 (0, 0)) → Calls Tryz.prog 14 #[.slice (some ⟨b, 0, none⟩) 1 1] w fun e w' => e = .returned (.string TX) ∧ Below w.heap.size w w' := fun b w h => by
            rw [hTX]
            rw [← hln] at h
            exact oneL_c c b w (nodes_one h)
          have zk : ((k : Int) < (l.length : Int) - 1) = True := by simp; omega
          have hW' : (W ++ (⟨#[38]⟩ ++ (⟨#[91]⟩ ++ XX)) : ByteArray).data.toList = W.data.toList ++ (38 :: oneL c) := by rw [hX, ← hXd]; simp
          have hnext := Lib.hid fun w3 (hB : Below w.heap.size w w3) => (⟨by omega, HNEW.out, fun h => by (rw [hW']; exact hst.1 h), fun h => absurd h (by omega), by (rw [ByteArray.size_append, ByteArray.size_append, ByteArray.size_append, show (⟨#[38]⟩ : ByteArray).size = 1 from rfl, show (⟨#[91]⟩ : ByteArray).size = 1 from rfl]; omega), hB⟩ : LAt w l (k + 1) (W ++ (⟨#[38]⟩ ++ (⟨#[91]⟩ ++ XX))) w3)
          have ew1 : IntKind.i64.wrap ((l.length : Int) - 1) = (l.length : Int) - 1 := by simp [IntKind.wrap, IntKind.signed, IntKind.bits]; omega
          have y1 : (9223372036854775807 < 1 + XX.size) = False := by simp; omega
          have y2 : (9223372036854775807 < 1 + (1 + XX.size)) = False := by simp; omega
          have y3 : (9223372036854775807 < W.size + (1 + XX.size)) = False := by simp; omega
          have y4 : (9223372036854775807 < W.size + (1 + (1 + XX.size))) = False := by simp; omega
          have HOF := Lib.hid hof
          have HWD := Lib.hid hwd
          have HON := Lib.hid hone
          have HB0 := Lib.hid HA.out.bel
          clear hof hwd hone hst hX hXl hTX hXX hXd hV hG hln hW' HA HST HNEW hc
          go_wp2_with fail
          refine (HOF.out _).mono ?_
          rintro e w2 ⟨rfl, hB2⟩
          have b2 := HB0.out.trans (hB2.mono HB0.out.size)
          clear HOF hB2
          go_wp2_with fail
          refine (HWD.out _).mono ?_
          rintro e w3 ⟨rfl, hB3⟩
          have b3 := b2.trans (hB3.mono b2.size)
          have b4 := b3.alloc b3.size (.cells #[.int .i64 1, .int .u64 (wd G 0), .int .u64 (wd G 1), .int .u64 (wd G 2), .int .u64 (wd G 3), .int .i64 0, .int .i64 0, .int .i64 0, .int .i64 0, .int .i64 0] 47)
          have HT := Lib.hid (HON.out w3.heap.size _ (heap_new w3 (.cells #[.int .i64 1, .int .u64 (wd G 0), .int .u64 (wd G 1), .int .u64 (wd G 2), .int .u64 (wd G 3), .int .i64 0, .int .i64 0, .int .i64 0, .int .i64 0, .int .i64 0] 47)))
          clear HWD hB3 HON b2 b3
          go_wp2_with fail
          refine HT.out.mono ?_
          rintro e w5 ⟨rfl, hB5⟩
          have HN := Lib.hid (hnext.out _ (b4.trans (hB5.mono b4.size)))
          clear HT hB5 b4 hnext
          go_wp2
          go_roundw
          case rel => exact ⟨k + 1, _, rfl, rfl, HN.out⟩
          case measure => (simp [RowKit.intOf] <;> omega)
      · have z97 : ((c.toNat : Int) < 97) = True := by simp; omega
        have z48 : ((c.toNat : Int) < 48) = False := by simp; omega
        have z57 : ((57 : Int) < (c.toNat : Int)) = True := by simp; omega
        go_wp2
        go_ret
        exact ⟨rfl, HA.out.bel⟩
      · have z97 : ((c.toNat : Int) < 97) = False := by simp; omega
        have z122 : ((122 : Int) < (c.toNat : Int)) = False := by simp; omega
        have hlet : isLet c = true := by
          unfold isLet
          simp only [Bool.or_eq_true, Bool.and_eq_true, decide_eq_true_iff]
          omega
        have HNEW := Lib.hid (fun j d (hj : j < k + 1) hd => by
          by_cases e : j = k
          · subst e; rw [hc] at hd; cases hd; exact hlet
          · exact HA.out.let' j d (by omega) hd : ∀ j d, j < k + 1 → l[j]? = some d → isLet d = true)
        have HST := Lib.hid fun w h => want_step l k c hc w h
        clear hlet
        by_cases hlast : k + 1 = l.length
        · have hst := HST.out W.data.toList (HA.out.more hlt)
          obtain ⟨X, hX, hXl⟩ := oneL_head c
          obtain ⟨TX, hTX⟩ : ∃ B : ByteArray, B = ⟨(oneL c).toArray⟩ := ⟨_, rfl⟩
          obtain ⟨XX, hXX⟩ : ∃ B : ByteArray, B = ⟨X.toArray⟩ := ⟨_, rfl⟩
          have hXd : XX.data.toList = X := by rw [hXX]
          have hXs : XX.size ≤ 600 := by rw [hXX]; simpa [ByteArray.size] using hXl
          have hsl : ∀ W, (Instr.slice 9 (.string TX) (some (.int .i64 1)) none none).run Tryz.prog W = .ok (.string XX) W := fun W => by
            have := sld_c (oneL c) 1 (by rw [hX]; simp) W
            rw [hX] at this
            rw [hTX, hX, hXX]
            exact this
          have hs1 : ∀ W, (Instr.slice 9 (.string ⟨l.toArray⟩) (some (.int .i64 (k : Int))) (some (.int .i64 ((k : Int) + 1))) none).run Tryz.prog W = .ok (.string ⟨#[c]⟩) W := fun W => by
            have := slice_two l (by omega) k 1 (by omega) W
            rw [show (l.drop k).take 1 = [c] by
              obtain ⟨h1, h2⟩ := List.getElem?_eq_some_iff.1 hc
              rw [List.drop_eq_getElem_cons h1, h2]; rfl] at this
            exact this
          obtain ⟨V, hV⟩ : ∃ V, V = bv (inS ⟨#[c]⟩ 1) := ⟨_, rfl⟩
          obtain ⟨G, hG⟩ : ∃ G, G = rg c.toNat c.toNat := ⟨_, rfl⟩
          have hof : ∀ w, Calls Tryz.prog 16 #[.string ⟨#[c]⟩] w fun e w' => e = .returned V ∧ Below w.heap.size w w' := fun w => by
            have := rof_c ⟨#[c]⟩ (by simp [ByteArray.size]) w
            rw [hV]
            exact this
          have hwd : ∀ w, Calls Tryz.prog 15 #[V] w fun e w' => e = .returned (.agg #[.int .u64 (wd G 0), .int .u64 (wd G 1), .int .u64 (wd G 2), .int .u64 (wd G 3)]) ∧ Below w.heap.size w w' := fun w => by
            have h := words_c (inS ⟨#[c]⟩ 1) w
            have e : sv (inS ⟨#[c]⟩ 1) = sv G := sv_congr fun i hi => by
              rw [hG, Bool.eq_iff_iff]
              simp [inS, rg]
              omega
            rw [hV]
            rw [e] at h
            exact h
          have hln : (letNd c).cells = #[.int .i64 1, .int .u64 (wd G 0), .int .u64 (wd G 1), .int .u64 (wd G 2), .int .u64 (wd G 3), .int .i64 0, .int .i64 0, .int .i64 0, .int .i64 0, .int .i64 0] := by rw [hG]; rfl
          have hone : ∀ b w, w.heap[b]? = some (.cells #[.int .i64 1, .int .u64 (wd G 0), .int .u64 (wd G 1), .int .u64 (wd G 2), .int .u64 (wd G 3), .int .i64 0, .int .i64 0, .int .i64 0, .int .i64 0, .int .i64 0] 47 (0, 0)) → Calls Tryz.prog 14 #[.slice (some ⟨b, 0, none⟩) 1 1] w fun e w' => e = .returned (.string TX) ∧ Below w.heap.size w w' := fun b w h => by
            rw [hTX]
            rw [← hln] at h
            exact oneL_c c b w (nodes_one h)
          have hkl : k + 1 = l.length := by omega
          have zk : ((k : Int) < (l.length : Int) - 1) = False := by simp; omega
          have hW' : (W ++ (⟨#[91]⟩ ++ XX) : ByteArray).data.toList = W.data.toList ++ oneL c := by rw [hX, ← hXd]; simp
          have hnext := Lib.hid fun w3 (hB : Below w.heap.size w w3) => (⟨by omega, HNEW.out, fun h => absurd h (by omega), fun _ => by (rw [hW']; exact hst.2 hkl), by (rw [ByteArray.size_append, ByteArray.size_append, show (⟨#[91]⟩ : ByteArray).size = 1 from rfl]; omega), hB⟩ : LAt w l (k + 1) (W ++ (⟨#[91]⟩ ++ XX)) w3)
          have ew1 : IntKind.i64.wrap ((l.length : Int) - 1) = (l.length : Int) - 1 := by simp [IntKind.wrap, IntKind.signed, IntKind.bits]; omega
          have y1 : (9223372036854775807 < 1 + XX.size) = False := by simp; omega
          have y2 : (9223372036854775807 < 1 + (1 + XX.size)) = False := by simp; omega
          have y3 : (9223372036854775807 < W.size + (1 + XX.size)) = False := by simp; omega
          have y4 : (9223372036854775807 < W.size + (1 + (1 + XX.size))) = False := by simp; omega
          have HOF := Lib.hid hof
          have HWD := Lib.hid hwd
          have HON := Lib.hid hone
          have HB0 := Lib.hid HA.out.bel
          clear hof hwd hone hst hX hXl hTX hXX hXd hV hG hln hW' HA HST HNEW hc
          go_wp2_with fail
          refine (HOF.out _).mono ?_
          rintro e w2 ⟨rfl, hB2⟩
          have b2 := HB0.out.trans (hB2.mono HB0.out.size)
          clear HOF hB2
          go_wp2_with fail
          refine (HWD.out _).mono ?_
          rintro e w3 ⟨rfl, hB3⟩
          have b3 := b2.trans (hB3.mono b2.size)
          have b4 := b3.alloc b3.size (.cells #[.int .i64 1, .int .u64 (wd G 0), .int .u64 (wd G 1), .int .u64 (wd G 2), .int .u64 (wd G 3), .int .i64 0, .int .i64 0, .int .i64 0, .int .i64 0, .int .i64 0] 47)
          have HT := Lib.hid (HON.out w3.heap.size _ (heap_new w3 (.cells #[.int .i64 1, .int .u64 (wd G 0), .int .u64 (wd G 1), .int .u64 (wd G 2), .int .u64 (wd G 3), .int .i64 0, .int .i64 0, .int .i64 0, .int .i64 0, .int .i64 0] 47)))
          clear HWD hB3 HON b2 b3
          go_wp2_with fail
          refine HT.out.mono ?_
          rintro e w5 ⟨rfl, hB5⟩
          have HN := Lib.hid (hnext.out _ (b4.trans (hB5.mono b4.size)))
          clear HT hB5 b4 hnext
          go_wp2
          go_roundw
          case rel => exact ⟨k + 1, _, rfl, rfl, HN.out⟩
          case measure => (simp [RowKit.intOf] <;> omega)
        · have hst := HST.out W.data.toList (HA.out.more hlt)
          obtain ⟨X, hX, hXl⟩ := oneL_head c
          obtain ⟨TX, hTX⟩ : ∃ B : ByteArray, B = ⟨(oneL c).toArray⟩ := ⟨_, rfl⟩
          obtain ⟨XX, hXX⟩ : ∃ B : ByteArray, B = ⟨X.toArray⟩ := ⟨_, rfl⟩
          have hXd : XX.data.toList = X := by rw [hXX]
          have hXs : XX.size ≤ 600 := by rw [hXX]; simpa [ByteArray.size] using hXl
          have hsl : ∀ W, (Instr.slice 9 (.string TX) (some (.int .i64 1)) none none).run Tryz.prog W = .ok (.string XX) W := fun W => by
            have := sld_c (oneL c) 1 (by rw [hX]; simp) W
            rw [hX] at this
            rw [hTX, hX, hXX]
            exact this
          have hs1 : ∀ W, (Instr.slice 9 (.string ⟨l.toArray⟩) (some (.int .i64 (k : Int))) (some (.int .i64 ((k : Int) + 1))) none).run Tryz.prog W = .ok (.string ⟨#[c]⟩) W := fun W => by
            have := slice_two l (by omega) k 1 (by omega) W
            rw [show (l.drop k).take 1 = [c] by
              obtain ⟨h1, h2⟩ := List.getElem?_eq_some_iff.1 hc
              rw [List.drop_eq_getElem_cons h1, h2]; rfl] at this
            exact this
          obtain ⟨V, hV⟩ : ∃ V, V = bv (inS ⟨#[c]⟩ 1) := ⟨_, rfl⟩
          obtain ⟨G, hG⟩ : ∃ G, G = rg c.toNat c.toNat := ⟨_, rfl⟩
          have hof : ∀ w, Calls Tryz.prog 16 #[.string ⟨#[c]⟩] w fun e w' => e = .returned V ∧ Below w.heap.size w w' := fun w => by
            have := rof_c ⟨#[c]⟩ (by simp [ByteArray.size]) w
            rw [hV]
            exact this
          have hwd : ∀ w, Calls Tryz.prog 15 #[V] w fun e w' => e = .returned (.agg #[.int .u64 (wd G 0), .int .u64 (wd G 1), .int .u64 (wd G 2), .int .u64 (wd G 3)]) ∧ Below w.heap.size w w' := fun w => by
            have h := words_c (inS ⟨#[c]⟩ 1) w
            have e : sv (inS ⟨#[c]⟩ 1) = sv G := sv_congr fun i hi => by
              rw [hG, Bool.eq_iff_iff]
              simp [inS, rg]
              omega
            rw [hV]
            rw [e] at h
            exact h
          have hln : (letNd c).cells = #[.int .i64 1, .int .u64 (wd G 0), .int .u64 (wd G 1), .int .u64 (wd G 2), .int .u64 (wd G 3), .int .i64 0, .int .i64 0, .int .i64 0, .int .i64 0, .int .i64 0] := by rw [hG]; rfl
          have hone : ∀ b w, w.heap[b]? = some (.cells #[.int .i64 1, .int .u64 (wd G 0), .int .u64 (wd G 1), .int .u64 (wd G 2), .int .u64 (wd G 3), .int .i64 0, .int .i64 0, .int .i64 0, .int .i64 0, .int .i64 0] 47 (0, 0)) → Calls Tryz.prog 14 #[.slice (some ⟨b, 0, none⟩) 1 1] w fun e w' => e = .returned (.string TX) ∧ Below w.heap.size w w' := fun b w h => by
            rw [hTX]
            rw [← hln] at h
            exact oneL_c c b w (nodes_one h)
          have zk : ((k : Int) < (l.length : Int) - 1) = True := by simp; omega
          have hW' : (W ++ (⟨#[38]⟩ ++ (⟨#[91]⟩ ++ XX)) : ByteArray).data.toList = W.data.toList ++ (38 :: oneL c) := by rw [hX, ← hXd]; simp
          have hnext := Lib.hid fun w3 (hB : Below w.heap.size w w3) => (⟨by omega, HNEW.out, fun h => by (rw [hW']; exact hst.1 h), fun h => absurd h (by omega), by (rw [ByteArray.size_append, ByteArray.size_append, ByteArray.size_append, show (⟨#[38]⟩ : ByteArray).size = 1 from rfl, show (⟨#[91]⟩ : ByteArray).size = 1 from rfl]; omega), hB⟩ : LAt w l (k + 1) (W ++ (⟨#[38]⟩ ++ (⟨#[91]⟩ ++ XX))) w3)
          have ew1 : IntKind.i64.wrap ((l.length : Int) - 1) = (l.length : Int) - 1 := by simp [IntKind.wrap, IntKind.signed, IntKind.bits]; omega
          have y1 : (9223372036854775807 < 1 + XX.size) = False := by simp; omega
          have y2 : (9223372036854775807 < 1 + (1 + XX.size)) = False := by simp; omega
          have y3 : (9223372036854775807 < W.size + (1 + XX.size)) = False := by simp; omega
          have y4 : (9223372036854775807 < W.size + (1 + (1 + XX.size))) = False := by simp; omega
          have HOF := Lib.hid hof
          have HWD := Lib.hid hwd
          have HON := Lib.hid hone
          have HB0 := Lib.hid HA.out.bel
          clear hof hwd hone hst hX hXl hTX hXX hXd hV hG hln hW' HA HST HNEW hc
          go_wp2_with fail
          refine (HOF.out _).mono ?_
          rintro e w2 ⟨rfl, hB2⟩
          have b2 := HB0.out.trans (hB2.mono HB0.out.size)
          clear HOF hB2
          go_wp2_with fail
          refine (HWD.out _).mono ?_
          rintro e w3 ⟨rfl, hB3⟩
          have b3 := b2.trans (hB3.mono b2.size)
          have b4 := b3.alloc b3.size (.cells #[.int .i64 1, .int .u64 (wd G 0), .int .u64 (wd G 1), .int .u64 (wd G 2), .int .u64 (wd G 3), .int .i64 0, .int .i64 0, .int .i64 0, .int .i64 0, .int .i64 0] 47)
          have HT := Lib.hid (HON.out w3.heap.size _ (heap_new w3 (.cells #[.int .i64 1, .int .u64 (wd G 0), .int .u64 (wd G 1), .int .u64 (wd G 2), .int .u64 (wd G 3), .int .i64 0, .int .i64 0, .int .i64 0, .int .i64 0, .int .i64 0] 47)))
          clear HWD hB3 HON b2 b3
          go_wp2_with fail
          refine HT.out.mono ?_
          rintro e w5 ⟨rfl, hB5⟩
          have HN := Lib.hid (hnext.out _ (b4.trans (hB5.mono b4.size)))
          clear HT hB5 b4 hnext
          go_wp2
          go_roundw
          case rel => exact ⟨k + 1, _, rfl, rfl, HN.out⟩
          case measure => (simp [RowKit.intOf] <;> omega)
      · have z97 : ((c.toNat : Int) < 97) = False := by simp; omega
        have z122 : ((122 : Int) < (c.toNat : Int)) = True := by simp; omega
        have z48 : ((c.toNat : Int) < 48) = False := by simp; omega
        have z57 : ((57 : Int) < (c.toNat : Int)) = True := by simp; omega
        go_wp2
        go_ret
        exact ⟨rfl, HA.out.bel⟩
    · obtain rfl : k = l.length := by omega
      have zlt : ((l.length : Int) < l.length) = False := by simp
      have hall : ∀ d ∈ l, isLet d = true := fun d hd => by
        obtain ⟨j, hj, e⟩ := List.mem_iff_getElem.1 hd
        exact HA.out.let' j d hj (by rw [List.getElem?_eq_getElem hj, e])
      obtain ⟨hpl, hpat⟩ := HRD.out hall
      have hWd := HA.out.all rfl
      have hwf := HW.out _ HA.out.bel
      have hne : parsedL l ≠ [] := by
        rw [hpl]
        intro e
        have := T.nodes_len (chainT l) 0
        rw [e] at this
        have := (chainT l).size_pos
        simp at *
        omega
      have hP := parse_row l (by omega) hne wr hwf
      rw [hpl] at hP
      have hfit : ∀ x ∈ (chainT l).nodes 0, x.Fits := by rw [← hpl]; exact parsedL_fits l
      have hTX := fun b o n cap w hw h => text_row (b := b) (o := o) (n := n) (cap := cap) hpat hfit w hw h
      have hWe : W = ⟨(text (chainT l)).toArray⟩ := by
        apply Go.WideShapes.bytes_inj
        rw [hWd]
      rw [← hWe] at hTX
      have HP := Lib.hid hP
      have TX' := Lib.hid hTX
      have HB := Lib.hid HA.out.bel
      have HF := Lib.hid hwf
      generalize (chainT l).nodes 0 = xs at *
      clear hall hpl hpat hWd hwf hne hP hfit hTX hWe HA HRD HW
      go_wp2_with fail
      refine HP.out.mono ?_
      rintro e w2 ⟨⟨b, o, n, cap, rfl, r2⟩, hB2⟩
      have f2 := HF.out.below hB2
      have b2 := HB.out.trans (hB2.mono HB.out.size)
      have R2 := Lib.hid r2
      clear HP HF HB hB2 r2
      go_wp2_with fail
      refine (TX'.out _ _ _ _ _ f2 R2.out).mono ?_
      rintro e w3 ⟨rfl, hB3⟩
      have b3 := b2.trans (hB3.mono b2.size)
      clear f2 R2 TX' b2 hB3
      go_wp2
      go_ret
      exact ⟨rfl, b3⟩

/-- **BreLetters holds of any text.** -/
theorem breLettersB (s : ByteArray) (w : World) (_ : s.size ≤ Go.reachBytes) (hw : Fit5 w) :
    Calls Tryz.prog 5 #[.string s] w fun e w' => e = .returned (.bool true) ∧ Below w.heap.size w w' := by
  by_cases h : 40 < s.size
  · exact letters_wide s h w hw
  · have e : s = ⟨s.data.toList.toArray⟩ := by simp
    have hl : s.data.toList.length ≤ 40 := by simp; omega
    rw [e]
    cases hd : s.data.toList with
    | nil => exact letters_none w hw
    | cons c tl =>
      rw [hd] at hl
      exact letters_in c tl (by simp only [List.length_cons] at hl; omega) w hw

end Go.Proofs.YthbldjiibgnfmaaGreatDoor
