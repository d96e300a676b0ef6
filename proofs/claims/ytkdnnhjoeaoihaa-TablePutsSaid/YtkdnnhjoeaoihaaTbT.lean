/- The walk of TablePuts. -/
import Derived.Test.YtkdnnhjoeaoihaaTbS
namespace Go.Proofs.Ytkdnnhjoeaoihaa
open Go.RowKit Go.Shelf
set_option linter.unusedVariables false
set_option linter.unusedSimpArgs false

/-- A slice of bools, to be read. -/
structure Bools (w : World) (p : Option Addr) (n : Nat) (bs : List Bool) : Prop where
  len : bs.length = n
  small : n ≤ maxLen
  ptr : 1 ≤ n → ∃ b o, p = some ⟨b, o, none⟩
  lt : 1 ≤ n → ∀ b o, p = some ⟨b, o, none⟩ → b < w.heap.size
  cell : ∀ b o, p = some ⟨b, o, none⟩ → ∀ (i : Nat) (x : Bool), bs[i]? = some x → w.cell? ⟨b, o + i, none⟩ = some (.bool x)
theorem Bools.beside {w w' : World} {p : Option Addr} {n : Nat} {bs : List Bool} (h : Bools w p n bs) (hB : Below w.heap.size w w') : Bools w' p n bs :=
  ⟨h.len, h.small, h.ptr, fun h1 b o e => Nat.lt_of_lt_of_le (h.lt h1 b o e) hB.size, fun b o e i x hx => by
    have h1 : 1 ≤ n := by have := (List.getElem?_eq_some_iff.1 hx).1; have := h.len; omega
    rw [hB.cell (p := ⟨b, _, none⟩) (h.lt h1 b o e)]
    exact h.cell b o e i x hx⟩

/-- What the table is like when k files have come. -/
structure Tab (k : Nat) (T : List Fl) : Prop where
  may : mayB [] T = true
  len : T.length ≤ k
  name : ∀ x ∈ T, x.1.size ≤ 100
  data : ∀ x ∈ T, x.2.size ≤ 300 * k
theorem Tab.put {k : Nat} {T : List Fl} (h : Tab k T) {nm dt : ByteArray} (h1 : nm.size ≤ 100) (h2 : dt.size ≤ 300 * (k + 1)) : Tab (k + 1) (putF T nm dt) := by
  refine ⟨may_put h.may nm dt, by have := put_len T nm dt; have := h.len; omega, fun x hx => ?_, fun x hx => ?_⟩
  · rcases put_mem hx with hx | rfl
    · exact h.name x hx
    · exact h1
  · rcases put_mem hx with hx | rfl
    · have := h.data x hx; omega
    · exact h2
theorem Tab.add {k : Nat} {T : List Fl} (h : Tab k T) {nm dt : ByteArray} (h1 : nm.size ≤ 100) (h2 : dt.size ≤ 300) : Tab (k + 1) (addF T nm dt) := by
  unfold addF
  refine h.put h1 ?_
  have := getF_size h.data nm
  rw [ByteArray.size_append]
  omega

set_option maxRecDepth 100000 in
set_option maxHeartbeats 8000000 in
theorem putsW (p : Option Addr) (n cap : Nat) (xs : List Fl) (pb : Option Addr) (nb cb : Nat) (bs : List Bool) (w : World) (h : Files w p n cap xs) (hb : Bools w pb nb bs) :
    Calls Try.prog 4 #[.slice p n cap, .slice pb nb cb] w fun e w' => e = .returned (.bool true) ∧ Below w.heap.size w w' := by
  have HS := Lib.hid (fun w => shown_c w)
  have HBd := Lib.hid (fun w h => bounded_c p n cap xs w h)
  have hlen := h.len
  have hm := h.le
  have hm2 := h.capm
  have hbl := hb.len
  have hbs := hb.small
  unfold maxLen at hm2 hbs
  cases hbn : bnd xs
  · rw [hbn] at HBd
    go_enter Try.func4, Try.ntmps4
    go_wp2_with fail
    refine (HBd.out _ h).mono ?_
    rintro e w' ⟨rfl, rfl⟩
    go_wp2_with fail
    refine (HS.out _).mono ?_
    rintro e w1 ⟨rfl, hB1⟩
    go_wp2
    go_ret
    exact ⟨rfl, hB1⟩
  rw [hbn] at HBd
  obtain ⟨hn, hx⟩ := bnd_n hbn
  rw [hlen] at hn
  have HX := Lib.hid hx
  clear hx hbn
  go_enter Try.func4, Try.ntmps4
  go_wp2_with fail
  refine (HBd.out _ h).mono ?_
  rintro e w' ⟨rfl, rfl⟩
  go_wp2_with fail
  refine (HS.out _).mono ?_
  rintro e w1 ⟨rfl, hB1⟩
  have l1 := hB1.size
  have bA : Below w'.heap.size w' ((w1.alloc (.cells #[] 35)).alloc (.cells #[] 54)) := (hB1.alloc l1 _).alloc (by simp; omega) _
  have fA : Files ((w1.alloc (.cells #[] 35)).alloc (.cells #[] 54)) (some ⟨w1.heap.size, 0, none⟩) 0 0 [] := ⟨rfl, by omega, by unfold maxLen; omega, fun e => by (cases e), fun h => absurd h (by omega), fun h => absurd h (by omega), fun _ _ _ i x hx => by simp at hx⟩
  have fB : Files ((w1.alloc (.cells #[] 35)).alloc (.cells #[] 54)) (some ⟨w1.heap.size + 1, 0, none⟩) 0 0 [] := ⟨rfl, by omega, by unfold maxLen; omega, fun e => by (cases e), fun h => absurd h (by omega), fun h => absurd h (by omega), fun _ _ _ i x hx => by simp at hx⟩
  have HA := Lib.hid (And.intro bA (And.intro fA fB))
  clear bA fA fB
  go_wp2_with fail
  go_loopw [5, 6, 7] (fun t r i wr => ∃ (k : Nat) (T : List Fl) (pt : Option Addr) (nt ct : Nat) (pr : Option Addr) (nr cr : Nat), t = .slice pt nt ct ∧ r = .slice pr nr cr ∧ i = .int .i64 k ∧ k ≤ n ∧ Tab k T ∧ Files wr pt nt ct T ∧ Files wr pr nr cr T ∧ Below w'.heap.size w' wr) (fun _ _ i _ => n - (RowKit.intOf i).toNat)
  case atStart => exact ⟨0, [], _, _, _, _, _, _, rfl, rfl, rfl, by omega, ⟨rfl, by simp, fun x hx => by (cases hx), fun x hx => by (cases hx)⟩, HA.out.2.1, HA.out.2.2, HA.out.1⟩
  case round =>
    obtain ⟨k, T, pt, nt, ct, pr, nr, cr, rfl, rfl, rfl, hk, hT, hFt, hFr, hB⟩ := hrel
    clear HA
    by_cases hlt : k < n
    · obtain ⟨b, o, rfl⟩ := h.ptr (by omega)
      obtain ⟨x, hxk⟩ : ∃ x, xs[k]? = some x := ⟨xs[k]'(by omega), List.getElem?_eq_getElem (by omega)⟩
      obtain ⟨c0, c1⟩ := (h.beside hB).cell b o rfl k x hxk
      have hxs := HX.out x (List.mem_of_getElem? hxk)
      have hki : (k : Int) < n := by omega
      have hlb := h.lt (by omega) b o rfl
      have hkc : ∀ W, Below wr.heap.size wr W → W.cell? ⟨b, o + k * 2, none⟩ = some (.string x.1) ∧ W.cell? ⟨b, o + k * 2 + 1, none⟩ = some (.string x.2) := fun W hW => (h.beside (hB.trans (hW.mono hB.size))).cell b o rfl k x hxk
      have HKC := Lib.hid hkc
      obtain ⟨nm, dt⟩ := x
      simp only at c0 c1 hxs HKC
      have lB := hB.size
      have lT := hT.len
      have ltl := hFt.len
      have lrl := hFr.len
      have HT := Lib.hid hT
      have hdata : ∀ x ∈ T, x.2.size ≤ 100000000 := fun x hx => by have := hT.data x hx; omega
      clear hxk hkc hT
      by_cases hbk : k < nb
      · obtain ⟨bb, ob, rfl⟩ := hb.ptr (by omega)
        obtain ⟨f, hf⟩ : ∃ f, bs[k]? = some f := ⟨bs[k]'(by omega), List.getElem?_eq_getElem (by omega)⟩
        have cb0 := (hb.beside hB).cell bb ob rfl k f hf
        have hbi : (k : Int) < nb := by omega
        clear hf
        cases f
        · skip
          have hT2 : Tab (k + 1) (putF T nm dt) := HT.out.put hxs.1 (by omega)
          have hal := put_alike HT.out.may nm dt
          obtain ⟨U, hU⟩ : ∃ U, U = putF T nm dt := ⟨_, rfl⟩
          have HP := Lib.hid (fun W h => put_c pt nt ct T nm dt W (by omega) h)
          have HR := Lib.hid (fun W h => rput_c pr nr cr T nm dt W (by omega) h)
          rw [← hal] at HR
          rw [← hU] at HP HR hT2
          have HT2 := Lib.hid hT2
          have lU := hT2.len
          have HI := Lib.hid (fun q m cap W h => its_c q m cap U W (by have := Files.len h; omega) h)
          have HM := Lib.hid (fun q m cap W h => may_c q m cap U W h)
          rw [hT2.may] at HM
          have HE := Lib.hid (fun q m cap q' m' cap' W h h' => same_c q q' m m' cap cap' U U true (by simp) W (fun x hx => by have := HT2.out.name x hx; have := HT2.out.data x hx; unfold okS maxLen; omega) (fun x hx => by have := HT2.out.name x hx; have := HT2.out.data x hx; unfold okS maxLen; omega) h h')
          clear hT2 hal hU hdata
          go_wp2_with fail
          have fd := hFt.beside ((Below.refl wr.heap.size wr).drew)
          go_region_with (go_at_call 18; refine (HP.out _ fd).mono ?_; rintro e w3 ⟨⟨v3, rfl, hown3⟩, hB3⟩)
          all_goals (
            obtain ⟨q3, cap3, rfl, hF3, _⟩ := files_of_own hown3
            have b3 : Below wr.heap.size wr w3 := ((Below.refl wr.heap.size wr).drew).trans hB3
            obtain ⟨e0, e1⟩ := HKC.out w3 b3
            have r3 := (hFr.beside b3).beside ((Below.refl w3.heap.size w3).drew)
            go_wp2_with fail
            go_region_with (go_at_call 19; refine (HR.out _ r3).mono ?_; rintro e w4 ⟨⟨q4, m4, cap4, rfl, hF4⟩, hB4⟩)
            all_goals (
              have b34 : Below w3.heap.size w3 w4 := ((Below.refl w3.heap.size w3).drew).trans hB4
              have b4 : Below wr.heap.size wr w4 := b3.trans (b34.mono b3.size)
              have g3 := hF3.beside b34
              go_wp2_with fail
              refine (HI.out _ _ _ _ g3).mono ?_
              rintro e w5 ⟨⟨q5, cap5, rfl, hF5⟩, hB5⟩
              have b5 := b4.trans (hB5.mono b4.size)
              have g4 := hF4.beside hB5
              go_wp2_with fail
              refine (HE.out _ _ _ _ _ _ _ hF5 g4).mono ?_
              rintro e w6 ⟨rfl, hB6⟩
              have b6 := b5.trans (hB6.mono b5.size)
              have g5 := (g3.beside hB5).beside hB6
              go_wp2_with fail
              refine (HM.out _ _ _ _ g5).mono ?_
              rintro e w7 ⟨rfl, hB7⟩
              have b7 := b6.trans (hB7.mono b6.size)
              have HR7 := Lib.hid (show Files w7 q3 U.length cap3 U ∧ Files w7 q4 m4 cap4 U ∧ Below w'.heap.size w' w7 from ⟨g5.beside hB7, (g4.beside hB6).beside hB7, hB.trans (b7.mono lB)⟩)
              clear hF3 hF4 hF5 g3 g4 g5 hFt hFr
              go_wp2
              go_roundw
              case rel => exact ⟨k + 1, U, _, _, _, _, _, _, rfl, rfl, by simp, by omega, HT2.out, HR7.out⟩
              case measure => (simp [RowKit.intOf]) <;> omega))
        · skip
          have hT2 : Tab (k + 1) (addF T nm dt) := HT.out.add hxs.1 hxs.2
          have hal := add_alike HT.out.may nm dt
          obtain ⟨U, hU⟩ : ∃ U, U = addF T nm dt := ⟨_, rfl⟩
          have HP := Lib.hid (fun W h => add_c pt nt ct T nm dt W (by omega) hdata (by omega) h)
          have HR := Lib.hid (fun W h => radd_c pr nr cr T nm dt W (by omega) hdata (by omega) h)
          rw [← hal] at HR
          rw [← hU] at HP HR hT2
          have HT2 := Lib.hid hT2
          have lU := hT2.len
          have HI := Lib.hid (fun q m cap W h => its_c q m cap U W (by have := Files.len h; omega) h)
          have HM := Lib.hid (fun q m cap W h => may_c q m cap U W h)
          rw [hT2.may] at HM
          have HE := Lib.hid (fun q m cap q' m' cap' W h h' => same_c q q' m m' cap cap' U U true (by simp) W (fun x hx => by have := HT2.out.name x hx; have := HT2.out.data x hx; unfold okS maxLen; omega) (fun x hx => by have := HT2.out.name x hx; have := HT2.out.data x hx; unfold okS maxLen; omega) h h')
          clear hT2 hal hU hdata
          go_wp2_with fail
          have fd := hFt.beside ((Below.refl wr.heap.size wr).drew)
          go_region_with (go_at_call 16; refine (HP.out _ fd).mono ?_; rintro e w3 ⟨⟨v3, rfl, hown3⟩, hB3⟩)
          all_goals (
            obtain ⟨q3, cap3, rfl, hF3, _⟩ := files_of_own hown3
            have b3 : Below wr.heap.size wr w3 := ((Below.refl wr.heap.size wr).drew).trans hB3
            obtain ⟨e0, e1⟩ := HKC.out w3 b3
            have r3 := (hFr.beside b3).beside ((Below.refl w3.heap.size w3).drew)
            go_wp2_with fail
            go_region_with (go_at_call 17; refine (HR.out _ r3).mono ?_; rintro e w4 ⟨⟨q4, m4, cap4, rfl, hF4⟩, hB4⟩)
            all_goals (
              have b34 : Below w3.heap.size w3 w4 := ((Below.refl w3.heap.size w3).drew).trans hB4
              have b4 : Below wr.heap.size wr w4 := b3.trans (b34.mono b3.size)
              have g3 := hF3.beside b34
              go_wp2_with fail
              refine (HI.out _ _ _ _ g3).mono ?_
              rintro e w5 ⟨⟨q5, cap5, rfl, hF5⟩, hB5⟩
              have b5 := b4.trans (hB5.mono b4.size)
              have g4 := hF4.beside hB5
              go_wp2_with fail
              refine (HE.out _ _ _ _ _ _ _ hF5 g4).mono ?_
              rintro e w6 ⟨rfl, hB6⟩
              have b6 := b5.trans (hB6.mono b5.size)
              have g5 := (g3.beside hB5).beside hB6
              go_wp2_with fail
              refine (HM.out _ _ _ _ g5).mono ?_
              rintro e w7 ⟨rfl, hB7⟩
              have b7 := b6.trans (hB7.mono b6.size)
              have HR7 := Lib.hid (show Files w7 q3 U.length cap3 U ∧ Files w7 q4 m4 cap4 U ∧ Below w'.heap.size w' w7 from ⟨g5.beside hB7, (g4.beside hB6).beside hB7, hB.trans (b7.mono lB)⟩)
              clear hF3 hF4 hF5 g3 g4 g5 hFt hFr
              go_wp2
              go_roundw
              case rel => exact ⟨k + 1, U, _, _, _, _, _, _, rfl, rfl, by simp, by omega, HT2.out, HR7.out⟩
              case measure => (simp [RowKit.intOf]) <;> omega))
      · have hbi : decide ((k : Int) < (nb : Int)) = false := by simp; omega
        have hbi2 : decide (k < nb) = false := by simp; omega
        have hT2 : Tab (k + 1) (putF T nm dt) := HT.out.put hxs.1 (by omega)
        have hal := put_alike HT.out.may nm dt
        obtain ⟨U, hU⟩ : ∃ U, U = putF T nm dt := ⟨_, rfl⟩
        have HP := Lib.hid (fun W h => put_c pt nt ct T nm dt W (by omega) h)
        have HR := Lib.hid (fun W h => rput_c pr nr cr T nm dt W (by omega) h)
        rw [← hal] at HR
        rw [← hU] at HP HR hT2
        have HT2 := Lib.hid hT2
        have lU := hT2.len
        have HI := Lib.hid (fun q m cap W h => its_c q m cap U W (by have := Files.len h; omega) h)
        have HM := Lib.hid (fun q m cap W h => may_c q m cap U W h)
        rw [hT2.may] at HM
        have HE := Lib.hid (fun q m cap q' m' cap' W h h' => same_c q q' m m' cap cap' U U true (by simp) W (fun x hx => by have := HT2.out.name x hx; have := HT2.out.data x hx; unfold okS maxLen; omega) (fun x hx => by have := HT2.out.name x hx; have := HT2.out.data x hx; unfold okS maxLen; omega) h h')
        clear hT2 hal hU hdata
        go_wp2_with fail
        have fd := hFt.beside ((Below.refl wr.heap.size wr).drew)
        go_region_with (go_at_call 18; refine (HP.out _ fd).mono ?_; rintro e w3 ⟨⟨v3, rfl, hown3⟩, hB3⟩)
        all_goals (
          obtain ⟨q3, cap3, rfl, hF3, _⟩ := files_of_own hown3
          have b3 : Below wr.heap.size wr w3 := ((Below.refl wr.heap.size wr).drew).trans hB3
          obtain ⟨e0, e1⟩ := HKC.out w3 b3
          have r3 := (hFr.beside b3).beside ((Below.refl w3.heap.size w3).drew)
          go_wp2_with fail
          go_region_with (go_at_call 19; refine (HR.out _ r3).mono ?_; rintro e w4 ⟨⟨q4, m4, cap4, rfl, hF4⟩, hB4⟩)
          all_goals (
            have b34 : Below w3.heap.size w3 w4 := ((Below.refl w3.heap.size w3).drew).trans hB4
            have b4 : Below wr.heap.size wr w4 := b3.trans (b34.mono b3.size)
            have g3 := hF3.beside b34
            go_wp2_with fail
            refine (HI.out _ _ _ _ g3).mono ?_
            rintro e w5 ⟨⟨q5, cap5, rfl, hF5⟩, hB5⟩
            have b5 := b4.trans (hB5.mono b4.size)
            have g4 := hF4.beside hB5
            go_wp2_with fail
            refine (HE.out _ _ _ _ _ _ _ hF5 g4).mono ?_
            rintro e w6 ⟨rfl, hB6⟩
            have b6 := b5.trans (hB6.mono b5.size)
            have g5 := (g3.beside hB5).beside hB6
            go_wp2_with fail
            refine (HM.out _ _ _ _ g5).mono ?_
            rintro e w7 ⟨rfl, hB7⟩
            have b7 := b6.trans (hB7.mono b6.size)
            have HR7 := Lib.hid (show Files w7 q3 U.length cap3 U ∧ Files w7 q4 m4 cap4 U ∧ Below w'.heap.size w' w7 from ⟨g5.beside hB7, (g4.beside hB6).beside hB7, hB.trans (b7.mono lB)⟩)
            clear hF3 hF4 hF5 g3 g4 g5 hFt hFr
            go_wp2
            go_roundw
            case rel => exact ⟨k + 1, U, _, _, _, _, _, _, rfl, rfl, by simp, by omega, HT2.out, HR7.out⟩
            case measure => (simp [RowKit.intOf]) <;> omega))
    · obtain rfl : k = n := by omega
      have hlt1 : ((k : Int) < k) = False := by simp
      go_wp2
      go_ret
      exact ⟨rfl, hB⟩

end Go.Proofs.Ytkdnnhjoeaoihaa
