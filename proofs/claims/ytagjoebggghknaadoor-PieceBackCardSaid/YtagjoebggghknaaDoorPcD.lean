/- piece: read. -/
import Derived.Test.YtagjoebggghknaaDoorPcW
namespace Go.Proofs.YtagjoebggghknaaDoor
open Go.RowKit
set_option linter.unusedVariables false
set_option linter.unusedSimpArgs false

theorem rd_stop (e : UInt8 → Bool) (p : UInt8 → List UInt8) (l : List UInt8) (a k : Nat) (out : List UInt8) (h1 : (rdP e p (l.drop a)).1 = out ++ (rdP e p (l.drop k)).1) (h2 : a + (rdP e p (l.drop a)).2 = k + (rdP e p (l.drop k)).2) (h : rdP e p (l.drop k) = ([], 0)) :
    (rdP e p (l.drop a)).1 = out ∧ a + (rdP e p (l.drop a)).2 = k := by rw [h] at h1 h2; exact ⟨by simpa using h1, h2⟩

set_option maxRecDepth 100000 in
set_option maxHeartbeats 8000000 in
theorem read_c (E P : FuncId) (ce cp : Array Value) (e : UInt8 → Bool) (p : UInt8 → List UInt8) (S : ByteArray) (a : Nat) (ha : a ≤ S.size) (hs : S.size ≤ 100000) (w : World)
    (henE : ∀ args w, (callFunc E args).run Tryd.prog w = .ok (.enter E args) w) (henP : ∀ args w, (callFunc P args).run Tryd.prog w = .ok (.enter P args) w)
    (hE : ∀ (c : UInt8) (W : World), Below w.heap.size w W → Calls Tryd.prog E (#[.int .u8 c.toNat] ++ ce) W fun r W' => r = .returned (.bool (e c)) ∧ Below W.heap.size W W')
    (hP : ∀ (c : UInt8) (W : World), Below w.heap.size w W → Calls Tryd.prog P (#[.int .u8 c.toNat] ++ cp) W fun r W' => r = .returned (.string ⟨(p c).toArray⟩) ∧ Below W.heap.size W W')
    (hp : ∀ x, (p x).length ≤ 2) :
    Calls Tryd.prog 28 #[.string S, .int .i64 (a : Int), .func (.func E) #[] ce, .func (.func P) #[] cp] w fun r w' => r = .returned (.tuple #[.string ⟨(rdP e p (S.data.toList.drop a)).1.toArray⟩, .int .i64 ((a + (rdP e p (S.data.toList.drop a)).2 : Nat) : Int)]) ∧ Below w.heap.size w w' := by
  obtain ⟨l, hl⟩ : ∃ l, l = S.data.toList := ⟨_, rfl⟩
  have hll : l.length = S.size := by rw [hl]; simp
  rw [← hl]
  have HL := Lib.hid hl
  have HLL := Lib.hid hll
  have HE := Lib.hid hE
  have HP := Lib.hid hP
  have HPL := Lib.hid hp
  have hb0 : Below w.heap.size w (w.alloc (.cells #[.pointer none, .slice none 0 0] 58)) := (Below.refl _ w).alloc (Nat.le_refl _) _
  have H0 := Lib.hid (And.intro hb0 (SB.new w w.heap.size (Nat.le_refl _)))
  clear hb0 hl hll hE hP hp
  go_enter Tryd.func28, Tryd.ntmps28
  go_wp2
  go_step3
  go_wp2
  go_step3
  go_wp2
  go_loopw [1] (fun i wr => ∃ (k : Nat) (out : List UInt8), k ≤ S.size ∧ i = .int .i64 k ∧ out.length ≤ 2 * k ∧ (rdP e p (l.drop a)).1 = out ++ (rdP e p (l.drop k)).1 ∧ a + (rdP e p (l.drop a)).2 = k + (rdP e p (l.drop k)).2 ∧ Below w.heap.size w wr ∧ SB w.heap.size w.heap.size (Lib.byteCells out) wr) (fun i _ => S.size - (RowKit.intOf i).toNat)
  case atStart => exact ⟨a, [], ha, rfl, by simp, rfl, rfl, H0.out.1, H0.out.2⟩
  case round =>
    obtain ⟨k, out, hk, rfl, hok, hr1, hr2, hB, hsb⟩ := hrel
    have lB := hB.size
    have hle := cells_len out
    by_cases hlt : k < S.size
    · have hkl : k < l.length := by have := HLL.out; omega
      obtain ⟨c, hc⟩ : ∃ c, l[k]? = some c := ⟨l[k], List.getElem?_eq_getElem hkl⟩
      have hsk := ba_get? S l HL.out.symm k c hlt hc
      have hdr := drop_one l k c hc
      have HCE := Lib.hid (HE.out c wr hB)
      have HSB := Lib.hid hsb
      have HDR := Lib.hid hdr
      have HR1 := Lib.hid hr1
      have HR2 := Lib.hid hr2
      clear hc hsb hdr hr1 hr2
      go_wp2_with fail
      refine HCE.out.mono ?_
      rintro r w1 ⟨rfl, hB1⟩
      have hB2 : Below w.heap.size w w1 := hB.trans (hB1.mono lB)
      have hsb1 := HSB.out.below hB1
      have lB2 := hB2.size
      cases hq : e c
      · by_cases h92 : c = 92
        · subst h92
          have q2 : ((S[k].toNat : Int) != 92) = false := by rw [hsk]; rfl
          by_cases hlast : k + 1 = S.size
          · have q4 : ((k : Int) + 1 == S.size) = true := by rw [beq_iff_eq]; omega
            have hst := rd_stop e p l a k out HR1.out HR2.out (by rw [HDR.out, List.drop_eq_nil_of_le (by have := HLL.out; omega), rd_bs1])
            have HST := Lib.hid hst
            have ST := Lib.hid (Tryd.Builder_String_any_k w.heap.size w.heap.size out w1 hsb1 lB2)
            clear hst hsb1 hlast
            go_wp2_with fail
            refine ST.out.mono ?_
            rintro r w2 ⟨rfl, _, hB3, _⟩
            have HB := Lib.hid (hB2.trans hB3)
            clear hB3
            go_wp2
            (try rw [Exit.noGoto_ret]); go_ret2
            exact ⟨by rw [HST.out.1, HST.out.2]; rfl, HB.out⟩
          · have q4 : ((k : Int) + 1 == S.size) = false := by rw [beq_eq_false_iff_ne]; omega
            have hlt2 : k + 1 < S.size := by omega
            have hki : (k : Int) + 1 < S.size := by omega
            have hkl2 : k + 1 < l.length := by have := HLL.out; omega
            obtain ⟨x, hx⟩ : ∃ x, l[k + 1]? = some x := ⟨l[k + 1], List.getElem?_eq_getElem hkl2⟩
            have hsx := ba_get? S l HL.out.symm (k + 1) x hlt2 hx
            have hdr2 := drop_one l (k + 1) x hx
            have hrd : rdP e p (l.drop k) = (p x ++ (rdP e p (l.drop (k + 2))).1, (rdP e p (l.drop (k + 2))).2 + 2) := by rw [HDR.out, hdr2, rd_bs e p x _ hq]
            obtain ⟨A, hA⟩ : ∃ A : ByteArray, A = ⟨(p x).toArray⟩ := ⟨_, rfl⟩
            have hAs : A.size = (p x).length := by rw [hA, ba_size]
            have hAl := HPL.out x
            have hcP := HP.out x w1 hB2
            rw [← hA] at hcP
            have HCP := Lib.hid hcP
            have HRD := Lib.hid hrd
            have HA := Lib.hid hA
            have HAS := Lib.hid (And.intro hAs hAl)
            clear hx hdr2 hrd hA hcP hlast hAs hAl
            go_wp2_with fail
            refine HCP.out.mono ?_
            rintro r w2 ⟨rfl, hB3⟩
            have hB4 : Below w.heap.size w w2 := hB2.trans (hB3.mono lB2)
            have HW := Lib.hid (fun h1 h2 => wstr_c w.heap.size w.heap.size (Lib.byteCells out) A w2 (hsb1.below hB3) h1 h2)
            clear hsb1
            go_wp2_with fail
            refine (HW.out (by rw [cells_len]; have := HAS.out; omega) hB4.size).mono ?_
            rintro r w3 ⟨rfl, hsb3, hk3⟩
            have HS3 := Lib.hid hsb3
            have HB5 := Lib.hid (hB4.trans hk3.1)
            clear hsb3 hk3
            go_wp2
            go_roundw
            case rel =>
              refine ⟨k + 2, out ++ p x, by omega, by simp, by have := HAS.out; simp; omega, ?_, ?_, HB5.out, ?_⟩
              · have := HR1.out; rw [HRD.out] at this; rw [this]; simp
              · have := HR2.out; rw [HRD.out] at this; rw [this]; simp only; omega
              · have := HS3.out
                rw [show Lib.strCells A = Lib.byteCells (p x) by rw [HA.out]; rfl] at this
                rw [cells_app]; exact this
            case measure => (simp [RowKit.intOf]) <;> omega
        · have q2 : ((S[k].toNat : Int) != 92) = true := by rw [hsk]; exact (u8ne (n := 92) (by omega)).trans (by simpa using h92)
          have q3 : ((c.toNat : Int) != 92) = true := (u8ne (n := 92) (by omega)).trans (by simpa using h92)
          have q5 : ¬ (c.toNat : Int) = 92 := by simpa using q3
          have hrd : rdP e p (l.drop k) = (c :: (rdP e p (l.drop (k + 1))).1, (rdP e p (l.drop (k + 1))).2 + 1) := by rw [HDR.out, rd_one e p c _ hq h92]
          have HW := Lib.hid (fun h1 h2 => wbyte_c w.heap.size w.heap.size (Lib.byteCells out) c.toNat w1 hsb1 h1 h2)
          have HRD := Lib.hid hrd
          clear hrd hsb1 h92
          go_wp2_with fail
          refine (HW.out (by rw [cells_len]; omega) lB2).mono ?_
          rintro r w3 ⟨rfl, hsb3, hk3⟩
          have HS3 := Lib.hid hsb3
          have HB5 := Lib.hid (hB2.trans hk3.1)
          clear hsb3 hk3
          go_wp2
          go_roundw
          case rel =>
            refine ⟨k + 1, out ++ [c], by omega, by simp, by simp; omega, ?_, ?_, HB5.out, ?_⟩
            · have := HR1.out; rw [HRD.out] at this; rw [this]; simp
            · have := HR2.out; rw [HRD.out] at this; rw [this]; simp only; omega
            · have := HS3.out
              rw [show Lib.byteCells (out ++ [c]) = Lib.byteCells out ++ [.int .u8 c.toNat] by simp [Lib.byteCells]]
              exact this
          case measure => (simp [RowKit.intOf]) <;> omega
      · have hst := rd_stop e p l a k out HR1.out HR2.out (by rw [HDR.out, rd_end e p c _ hq])
        have HST := Lib.hid hst
        have ST := Lib.hid (Tryd.Builder_String_any_k w.heap.size w.heap.size out w1 hsb1 lB2)
        clear hst hsb1
        go_wp2_with fail
        refine ST.out.mono ?_
        rintro r w2 ⟨rfl, _, hB3, _⟩
        have HB := Lib.hid (hB2.trans hB3)
        clear hB3
        go_wp2
        (try rw [Exit.noGoto_ret]); go_ret2
        exact ⟨by rw [HST.out.1, HST.out.2]; rfl, HB.out⟩
    · obtain rfl : k = S.size := by omega
      have hlt1 : ((S.size : Int) < S.size) = False := by simp
      have hst := rd_stop e p l a S.size out hr1 hr2 (by rw [List.drop_eq_nil_of_le (by have := HLL.out; omega), rdP])
      have HST := Lib.hid hst
      have ST := Lib.hid (Tryd.Builder_String_any_k w.heap.size w.heap.size out wr hsb lB)
      clear hst hsb hr1 hr2
      go_wp2_with fail
      refine ST.out.mono ?_
      rintro r w2 ⟨rfl, _, hB3, _⟩
      have HB := Lib.hid (hB.trans hB3)
      clear hB3
      go_wp2
      (try rw [Exit.noGoto_ret]); go_ret2
      exact ⟨by rw [HST.out.1, HST.out.2]; rfl, HB.out⟩

end Go.Proofs.YtagjoebggghknaaDoor
