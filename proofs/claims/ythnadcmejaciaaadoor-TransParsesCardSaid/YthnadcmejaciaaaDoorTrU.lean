/- TransLines: the walk. -/
import Derived.Test.YthnadcmejaciaaaDoorTrT
namespace Go.Proofs.YthnadcmejaciaaaDoor
open Go.RowKit
set_option linter.unusedVariables false
set_option linter.unusedSimpArgs false

/-- The line's length behind a text. -/
def sc : Nat → List UInt8 → Nat
  | n, [] => n
  | n, c :: r => if c = 10 then sc 0 r else sc (n + 1) r
theorem sc_app : ∀ (a r : List UInt8) (n : Nat), (10 : UInt8) ∉ a → sc n (a ++ r) = sc (n + a.length) r
  | [], r, n, _ => rfl
  | c :: a, r, n, h => by
    simp only [List.mem_cons, not_or] at h
    simp only [List.cons_append, sc]
    rw [if_neg (fun e => h.1 e.symm), sc_app a r (n + 1) h.2, List.length_cons]
    congr 1; omega
theorem sc_snoc : ∀ (a : List UInt8) (c : UInt8) (n : Nat), sc n (a ++ [c]) = if c = 10 then 0 else sc n a + 1
  | [], c, n => rfl
  | b :: a, c, n => by
    simp only [List.cons_append, sc]
    split
    · exact sc_snoc a c 0
    · exact sc_snoc a c (n + 1)
theorem sc_le : ∀ (a : List UInt8) (n : Nat), sc n a ≤ n + a.length
  | [], n => by simp [sc]
  | b :: a, n => by
    simp only [sc, List.length_cons]
    split
    · have := sc_le a 0; omega
    · have := sc_le a (n + 1); omega
/-- No line is too long. -/
def PL (w : Int) (n : Nat) (t : List UInt8) : Prop := ∀ k, t[k]? = some 10 → 2 ≤ w → (sc n (t.take k) : Int) ≤ w ∨ sc n (t.take k) ≤ 5
theorem PL_app {w : Int} {n : Nat} {a r : List UInt8} (ha : (10 : UInt8) ∉ a) (h : PL w (n + a.length) r) : PL w n (a ++ r) := by
  intro k hk hw
  by_cases hka : k < a.length
  · rw [List.getElem?_append_left hka] at hk
    exact absurd (List.mem_of_getElem? hk) ha
  · rw [List.getElem?_append_right (by omega)] at hk
    have := h _ hk hw
    rwa [List.take_append, List.take_of_length_le (by omega), sc_app a _ n ha]
theorem PL_10 {w : Int} {n : Nat} {r : List UInt8} (hn : 2 ≤ w → (n : Int) ≤ w ∨ n ≤ 5) (h : PL w 0 r) : PL w n (10 :: r) := by
  intro k hk hw
  cases k with
  | zero => simpa [sc] using hn hw
  | succ k =>
    have := h k (by simpa using hk) hw
    simpa [sc] using this
theorem PL_nil (w : Int) (n : Nat) : PL w n [] := by intro k hk; simp at hk
theorem body_PL (w : Int) : ∀ (s : List UInt8) (n : Nat), (2 ≤ w → (n : Int) ≤ w - 1 ∨ n ≤ 4) → PL w n (body w n s ++ [36, 10])
  | [], n, hn => by
    rw [body, List.nil_append]
    refine PL_app (a := [36]) (by decide) (PL_10 (fun hw => ?_) (PL_nil _ _))
    have := hn hw
    simp only [List.length_cons, List.length_nil]
    omega
  | b :: l, n, hn => by
    have hp := pc_len b
    simp only [body]
    split
    · rw [List.append_assoc, List.append_assoc]
      show PL w n ([92] ++ (10 :: (pc b ++ (body w (pc b).length l ++ [36, 10]))))
      refine PL_app (a := [92]) (by decide) (PL_10 (fun hw => ?_) (PL_app (a := pc b) (pc_no10 b) ?_))
      · have := hn hw
        simp only [List.length_cons, List.length_nil]
        omega
      · rw [Nat.zero_add]
        exact body_PL w l _ (fun _ => .inr (by omega))
    · rename_i hb
      rw [List.append_assoc]
      refine PL_app (a := pc b) (pc_no10 b) (body_PL w l (n + (pc b).length) (fun hw => ?_))
      rw [brk_iff] at hb
      by_cases h0 : 0 < n
      · left
        have := Classical.not_not.1 (fun hh => hb ⟨hw, h0, Int.not_le.1 hh⟩)
        omega
      · right; omega
theorem body_byte (w : Int) : ∀ (s : List UInt8) (n : Nat) (c : UInt8), c ∈ body w n s → c = 10 ∨ 32 ≤ c ∧ c ≤ 126
  | [], n, c, h => by simp [body] at h
  | b :: l, n, c, h => by
    simp only [body] at h
    split at h
    · rw [List.append_assoc] at h
      rcases List.mem_append.1 h with h | h
      · simp at h
        rcases h with rfl | rfl
        · right; decide
        · left; rfl
      · rcases List.mem_append.1 h with h | h
        · exact .inr (pc_byte b c h)
        · exact body_byte w l _ c h
    · rcases List.mem_append.1 h with h | h
      · exact .inr (pc_byte b c h)
      · exact body_byte w l _ c h
theorem lst_byte (w : Int) (s : List UInt8) (c : UInt8) (h : c ∈ lst s w) : c = 10 ∨ 32 ≤ c ∧ c ≤ 126 := by
  rcases List.mem_append.1 h with h | h
  · exact body_byte w s 0 c h
  · simp at h
    rcases h with rfl | rfl
    · right; decide
    · left; rfl
theorem lst_PL (w : Int) (s : List UInt8) : PL w 0 (lst s w) := body_PL w s 0 (fun _ => .inr (by omega))

set_option maxRecDepth 100000 in
set_option maxHeartbeats 8000000 in
theorem linesW (S : ByteArray) (b : Nat) (hs : S.size ≤ reachBytes) (hb : b < 256) (w : World) (hm : MaxL w) :
    Calls Tryd.prog 6 #[.string S, .int .u8 (b : Int)] w fun e w' => e = .returned (.bool true) ∧ Below w.heap.size w w' := by
  have HS := Lib.hid (fun w hm => shown_c w hm)
  have HM := Lib.hid hm
  have hrb : reachBytes = 140737488351232 := by decide
  rw [hrb] at hs
  clear hm hrb
  by_cases hbig : 200 < S.size
  · have t1 : (200 : Int) < (S.size : Int) := by omega
    clear hbig
    go_enter Tryd.func6, Tryd.ntmps6
    go_wp2_with fail
    refine (HS.out _ HM.out).mono ?_
    rintro e w1 ⟨rfl, hB1⟩
    have HB := Lib.hid hB1
    clear hB1
    go_wp2
    go_ret
    exact ⟨rfl, HB.out⟩
  · have t1 : ¬ (200 : Int) < (S.size : Int) := by omega
    have HLI := fun w => list_c S (b : Int) (by omega) (by omega) w
    obtain ⟨t, ht⟩ : ∃ t, t = lst S.data.toList (b : Int) := ⟨_, rfl⟩
    obtain ⟨T, hT⟩ : ∃ T : ByteArray, T = ⟨t.toArray⟩ := ⟨_, rfl⟩
    rw [← ht, ← hT] at HLI
    have hTd : T.data.toList = t := by rw [hT]
    have htl : t.length = T.size := by rw [← hTd]; simp
    have hPL : PL (b : Int) 0 t := by rw [ht]; exact lst_PL _ _
    have hby : ∀ c ∈ t, c = 10 ∨ 32 ≤ c ∧ c ≤ 126 := by rw [ht]; exact fun c => lst_byte _ _ c
    obtain ⟨q, hq⟩ : ∃ q, t = q ++ [36, 10] := ⟨body (b : Int) 0 S.data.toList, ht⟩
    have hTb : T.size ≤ 1210 := by
      rw [← htl, ht]
      have := body_len (b : Int) 0 S.data.toList
      rw [show S.data.toList.length = S.size by simp] at this
      simp [lst]; omega
    have H1 := Lib.hid HLI
    have HTD := Lib.hid hTd
    have HTL := Lib.hid htl
    have HPL := Lib.hid hPL
    have HBY := Lib.hid hby
    have HQ := Lib.hid hq
    clear hbig HLI ht hT hTd htl hPL hby hq
    go_enter Tryd.func6, Tryd.ntmps6
    go_wp2_with fail
    refine (HS.out _ HM.out).mono ?_
    rintro e w1 ⟨rfl, hB1⟩
    have HB1 := Lib.hid hB1
    clear hB1
    go_wp2_with fail
    refine (H1.out _).mono ?_
    rintro e w2 ⟨rfl, hB2⟩
    have HB2 := Lib.hid (HB1.out.trans (hB2.mono HB1.out.size))
    clear hB2
    go_wp2
    go_loop [7, 8] (fun n i => ∃ k : Nat, k ≤ T.size ∧ i = .int .i64 k ∧ n = .int .i64 (sc 0 (t.take k))) (fun _ i => T.size - (RowKit.intOf i).toNat)
    case atStart => exact ⟨0, by omega, rfl, rfl⟩
    case round =>
      obtain ⟨k, hk, rfl, rfl⟩ := hrel
      have hsl := sc_le (t.take k) 0
      rw [List.length_take] at hsl
      by_cases hlt : k < T.size
      · have hkl : k < t.length := by have := HTL.out; omega
        obtain ⟨c, hc⟩ : ∃ c, t[k]? = some c := ⟨t[k], List.getElem?_eq_getElem hkl⟩
        have hsk := ba_get? T t HTD.out k c hlt hc
        have htk := take_snoc t k c hc
        have hsn := sc_snoc (t.take k) c 0
        rw [← htk] at hsn
        obtain ⟨n, hn⟩ : ∃ n, n = sc 0 (t.take k) := ⟨_, rfl⟩
        have hP := HPL.out k
        rw [hc, ← hn] at hP
        rw [← hn] at hsl hsn ⊢
        have hnb : n ≤ 1210 := by omega
        have hcb := HBY.out c (List.mem_of_getElem? hc)
        by_cases h10 : c = 10
        · subst h10
          have q1 : ((T[k].toNat : Int) == 10) = true := by rw [hsk]; rfl
          rw [if_pos rfl] at hsn
          have HSN := Lib.hid hsn
          have hP2 : 2 ≤ (b : Int) → (n : Int) ≤ b ∨ n ≤ 5 := fun h => hP rfl h
          by_cases h2 : 2 ≤ b
          · have t2 : (2 : Int) ≤ (b : Int) := by omega
            by_cases h3 : b < n
            · have t3 : (b : Int) < (n : Int) := by omega
              have t4 : ¬ (5 : Int) < (n : Int) := by
                have := hP2 t2; omega
              clear hP hP2 hsk hc htk hsn hn hsl hcb h2 h3
              go_wp2
              go_round
              case rel => exact ⟨k + 1, by omega, by simp, by rw [HSN.out]; rfl⟩
              case measure => (simp [RowKit.intOf]) <;> omega
            · have t3 : ¬ (b : Int) < (n : Int) := by omega
              clear hP hP2 hsk hc htk hsn hn hsl hcb h2 h3
              go_wp2
              go_round
              case rel => exact ⟨k + 1, by omega, by simp, by rw [HSN.out]; rfl⟩
              case measure => (simp [RowKit.intOf]) <;> omega
          · have t2 : ¬ (2 : Int) ≤ (b : Int) := by omega
            clear hP hP2 hsk hc htk hsn hn hsl hcb h2
            go_wp2
            go_round
            case rel => exact ⟨k + 1, by omega, by simp, by rw [HSN.out]; rfl⟩
            case measure => (simp [RowKit.intOf]) <;> omega
        · have q1 : ((T[k].toNat : Int) == 10) = false := by rw [hsk]; exact (u8eq (n := 10) (by omega)).trans (by simpa using h10)
          rw [if_neg h10] at hsn
          have HSN := Lib.hid hsn
          obtain ⟨hlo, hhi⟩ := hcb.resolve_left h10
          have t2 : ¬ (T[k].toNat : Int) < 32 := by
            have := UInt8.le_iff_toNat_le.1 hlo
            rw [hsk]; simp at this; omega
          have t3 : ¬ (126 : Int) < (T[k].toNat : Int) := by
            have := UInt8.le_iff_toNat_le.1 hhi
            rw [hsk]; simp at this; omega
          clear hP hsk hc htk hsn hn hsl hcb hlo hhi
          go_wp2
          go_round
          case rel => exact ⟨k + 1, by omega, by simp, by rw [HSN.out]; simp⟩
          case measure => (simp [RowKit.intOf]) <;> omega
      · obtain rfl : k = T.size := by omega
        have hlt1 : ((T.size : Int) < T.size) = False := by simp
        have htk : t.take T.size = t := List.take_of_length_le (by have := HTL.out; omega)
        have hs0 : sc 0 t = 0 := by
          rw [HQ.out, show q ++ [36, 10] = (q ++ [36]) ++ [10] by simp, sc_snoc]; rfl
        have hql : q.length + 2 = T.size := by
          have := congrArg List.length HQ.out
          have := HTL.out
          simp at *; omega
        have hqc : t[q.length]? = some 36 := by rw [HQ.out, List.getElem?_append_right (Nat.le_refl _)]; simp
        have hsk := ba_get? T t HTD.out q.length 36 (by omega) hqc
        have hki : (T.size : Int) - 2 = (q.length : Int) := by omega
        have hge : (2 : Int) ≤ (T.size : Int) := by omega
        have hqt : q.length < T.size := by omega
        have q1 : ((T[q.length].toNat : Int) == 36) = true := by rw [hsk]; rfl
        rw [htk, hs0]
        clear htk hs0 hsk hqc hsl hql
        go_wp2
        go_ret
        exact ⟨rfl, HB2.out⟩

end Go.Proofs.YthnadcmejaciaaaDoor
