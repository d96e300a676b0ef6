/- The reference's number. -/
import Derived.Test.YthcgboebmhabeaaDoorZRxRc
import Derived.Test.YthcgboebmhabeaaDoorZRxTk
import Derived.Test.YthcgboebmhabeaaDoorZRxTl
namespace Go.Proofs.YthcgboebmhabeaaDoor
open Go.RowKit Go.Lib
set_option linter.unusedVariables false
set_option linter.unusedSimpArgs false

/-- The count and the place at which number's loop ends: f rounds are left. -/
def nScan (l : List UInt8) (e : UInt8) : Nat → Nat → Nat → Nat × Nat
  | 0, i, n => (n, i)
  | f + 1, i, n => match l[i]? with
    | none => (n, i)
    | some c => if c = e then (n, i) else nScan l e f (i + 1) (if 48 ≤ c.toNat ∧ c.toNat ≤ 57 then n * 10 + (c.toNat - 48) else n)
def rnum (l : List UInt8) (a : Nat) (e : UInt8) : Int × Int :=
  if l[(nScan l e 3 a 0).2]? = some e then (if (⟨l.toArray⟩ : ByteArray).extract a (nScan l e 3 a 0).2 = ⟨#[45, 49]⟩ then -1 else ((nScan l e 3 a 0).1 : Int), ((nScan l e 3 a 0).2 : Int)) else (0, -1)
theorem nScan_end (l : List UInt8) (e : UInt8) (f i n : Nat) (h : l.length ≤ i) : nScan l e f i n = (n, i) := by
  cases f with
  | zero => rfl
  | succ f => simp [nScan, List.getElem?_eq_none h]
theorem nScan_hit (l : List UInt8) (e : UInt8) (f i n : Nat) (h : l[i]? = some e) : nScan l e f i n = (n, i) := by
  cases f with
  | zero => rfl
  | succ f => simp [nScan, h]
theorem nScan_step (l : List UInt8) (e c : UInt8) (f i n : Nat) (h : l[i]? = some c) (hc : c ≠ e) : nScan l e (f + 1) i n = nScan l e f (i + 1) (if 48 ≤ c.toNat ∧ c.toNat ≤ 57 then n * 10 + (c.toNat - 48) else n) := by
  simp [nScan, h, hc]
theorem rnum_none {l : List UInt8} {a : Nat} {e : UInt8} {n i : Nat} (h : nScan l e 3 a 0 = (n, i)) (hi : l[i]? ≠ some e) : rnum l a e = (0, -1) := by
  simp [rnum, h, hi]
theorem rnum_some {l : List UInt8} {a : Nat} {e : UInt8} {n i : Nat} (h : nScan l e 3 a 0 = (n, i)) (hi : l[i]? = some e) : rnum l a e = (if (⟨l.toArray⟩ : ByteArray).extract a i = ⟨#[45, 49]⟩ then -1 else (n : Int), (i : Int)) := by
  simp [rnum, h, hi]

set_option maxRecDepth 100000 in
set_option maxHeartbeats 8000000 in
theorem rnumber_c (l : List UInt8) (hl : l.length ≤ 100000) (a : Nat) (ha : a ≤ l.length) (e : UInt8) (w : World) :
    Calls Tryd.prog 37 #[.string ⟨l.toArray⟩, .int .i64 a, .int .u8 (e.toNat : Int)] w fun r w' => r = .returned (.tuple #[.int .i64 (rnum l a e).1, .int .i64 (rnum l a e).2]) ∧ w' = w := by
  have hsz : (⟨l.toArray⟩ : ByteArray).size = l.length := by simp [ByteArray.size]
  have hix : ∀ (k : Nat) (c : UInt8), l[k]? = some c → ∀ w, (Instr.index 9 (.string ⟨l.toArray⟩) (.int .i64 (k : Int))).run Tryd.prog w = .ok (.int .u8 (c.toNat : Int)) w := fun k c hc w => by
    obtain ⟨hk, rfl⟩ := List.getElem?_eq_some_iff.1 hc
    rw [run_index_string (P := Tryd.prog) w 9 _ .i64 k Tryd.underlying9, dif_pos ⟨by omega, by rw [hsz]; omega⟩]
    simp
    rfl
  have HX := Lib.hid hix
  clear hix
  have HC := Lib.hid (fun (i : Nat) (h0 : a ≤ i) (h1 : i ≤ l.length) (w : World) => (by
    rw [run_slice_string_if (P := Tryd.prog) w 9 _ .i64 .i64 (a : Int) (i : Int) Tryd.underlying9, if_pos ⟨by omega, by rw [hsz]; omega⟩, if_pos ⟨by omega, by omega⟩]
    rfl : (Instr.slice 9 (.string ⟨l.toArray⟩) (some (.int .i64 (a : Int))) (some (.int .i64 (i : Int))) none).run Tryd.prog w = .ok (.string ((⟨l.toArray⟩ : ByteArray).extract a i)) w))
  have hw3 : IntKind.i64.wrap ((a : Int) + 3) = (a : Int) + 3 := by simp [IntKind.wrap, IntKind.signed, IntKind.bits]; omega
  obtain ⟨R, hR⟩ : ∃ R, R = rnum l a e := ⟨_, rfl⟩
  rw [← hR]
  go_enter Tryd.func37, Tryd.ntmps37
  go_wp2
  go_loopw [8, 9] (fun i n wr => ∃ k m f : Nat, k + f = a + 3 ∧ a ≤ k ∧ f ≤ 3 ∧ k ≤ l.length ∧ m < 10 ^ (3 - f) ∧ i = .int .i64 k ∧ n = .int .i64 m ∧ nScan l e 3 a 0 = nScan l e f k m ∧ wr = w) (fun i _ _ => l.length - (RowKit.intOf i).toNat)
  case atStart => exact ⟨a, 0, 3, rfl, Nat.le_refl _, Nat.le_refl _, ha, by decide, rfl, rfl, rfl, rfl⟩
  case round =>
    obtain ⟨k, m, f, hkf, hak, hf, hk, hm, rfl, rfl, hn, rfl⟩ := hrel
    by_cases hlt : k < l.length
    · obtain ⟨c, hc⟩ : ∃ c, l[k]? = some c := ⟨l[k], List.getElem?_eq_getElem hlt⟩
      have hx1 := HX.out k c hc
      have g1 : ((k : Int) < l.length) = True := by simp; omega
      have g1' : ((l.length : Int) ≤ k) = False := by simp; omega
      by_cases hce : c = e
      · subst hce
        have hn2 := rnum_some (hn.trans (nScan_hit l c f k m hc)) hc
        have hsl := HC.out k hak (by omega)
        by_cases hq : (⟨l.toArray⟩ : ByteArray).extract a k = ⟨#[45, 49]⟩
        · rw [if_pos hq] at hn2
          rw [hq] at hsl
          have HR := Lib.hid (hR.trans hn2)
          clear hn hn2 hR hc HX HC
          generalize c.toNat = C at *
          have q1 : ((C : Int) != C) = false := by simp
          go_wp2
          refine bodyPost_ret (v := .tuple #[.int .i64 (-1), .int .i64 k]) (by simp [results, Tryd.results37, go_sem]) rfl ?_
          exact ⟨by rw [HR.out], rfl⟩
        · rw [if_neg hq] at hn2
          have HR := Lib.hid (hR.trans hn2)
          clear hn hn2 hR hc HX HC
          generalize (⟨l.toArray⟩ : ByteArray).extract a k = X at *
          have q2 : (X.toList == [45, 49]) = false := by
            rw [beq_eq_false_iff_ne, ByteArray.toList_eq]
            exact fun h => hq (by apply ByteArray.ext; apply Array.ext'; exact h)
          generalize c.toNat = C at *
          have q1 : ((C : Int) != C) = false := by simp
          go_wp2
          refine bodyPost_ret (v := .tuple #[.int .i64 m, .int .i64 k]) (by simp [results, Tryd.results37, go_sem]) rfl ?_
          exact ⟨by rw [HR.out], rfl⟩
      · have hcn : c.toNat ≠ e.toNat := fun h => hce (UInt8.toNat_inj.1 h)
        have q1 : ((c.toNat : Int) != e.toNat) = true := by simp; omega
        match f, hkf, hf, hm, hn with
        | 0, hkf, hf, hm, hn =>
          have g2 : ((k : Int) < (a : Int) + 3) = False := by simp; omega
          have hn2 := rnum_none hn (by rw [hc]; simpa using hce)
          have HR := Lib.hid (hR.trans hn2)
          clear hn hn2 hR hc HX HC hce hcn
          generalize c.toNat = C at *
          generalize e.toNat = E at *
          go_wp2
          refine bodyPost_ret (v := .tuple #[.int .i64 0, .int .i64 (-1)]) (by simp [results, Tryd.results37, go_sem]) rfl ?_
          exact ⟨by rw [HR.out], rfl⟩
        | f + 1, hkf, hf, hm, hn =>
          have g2 : ((k : Int) < (a : Int) + 3) = True := by simp; omega
          have hn2 := hn.trans (nScan_step l e c f k m hc hce)
          have hc256 := c.toNat_lt
          have hm' : m < 100 := by
            have : (10 : Nat) ^ (3 - (f + 1)) ≤ 10 ^ 2 := Nat.pow_le_pow_right (by omega) (by omega)
            omega
          have hp : (10 : Nat) ^ (3 - f) = 10 ^ (3 - (f + 1)) * 10 := by
            rw [← Nat.pow_succ]; congr 1; omega
          have e5 : IntKind.i64.wrap ((k : Int) + 1) = (k : Int) + 1 := by simp [IntKind.wrap, IntKind.signed, IntKind.bits]; omega
          generalize (10 : Nat) ^ (3 - (f + 1)) = P at *
          clear hn hc hce hcn HX HC
          have HN := Lib.hid hn2
          clear hn2
          generalize c.toNat = C at *
          by_cases h48 : 48 ≤ C
          · have t1 : ((48 : Int) ≤ C) = True := by simp; omega
            by_cases h57 : C ≤ 57
            · have t2 : ((C : Int) ≤ 57) = True := by simp; omega
              have e1 : IntKind.i64.wrap ((m : Int) * 10) = (m : Int) * 10 := by simp [IntKind.wrap, IntKind.signed, IntKind.bits]; omega
              have e2 : IntKind.u8.wrap ((C : Int) - 48) = (C : Int) - 48 := by simp [IntKind.wrap, IntKind.signed, IntKind.bits]; omega
              have e3 : IntKind.i64.wrap ((C : Int) - 48) = (C : Int) - 48 := by simp [IntKind.wrap, IntKind.signed, IntKind.bits]; omega
              have e4 : IntKind.i64.wrap ((m : Int) * 10 + ((C : Int) - 48)) = (m : Int) * 10 + ((C : Int) - 48) := by simp [IntKind.wrap, IntKind.signed, IntKind.bits]; omega
              go_wp2
              go_roundw
              case rel => exact ⟨k + 1, m * 10 + (C - 48), f, by omega, by omega, by omega, by omega, by omega, by simp, by simp; omega, by rw [HN.out, if_pos ⟨h48, h57⟩], trivial⟩
              case measure => (simp [RowKit.intOf]) <;> omega
            · have t2 : ((C : Int) ≤ 57) = False := by simp; omega
              go_wp2
              go_roundw
              case rel => exact ⟨k + 1, m, f, by omega, by omega, by omega, by omega, by omega, by simp, rfl, by rw [HN.out, if_neg (by omega)], trivial⟩
              case measure => (simp [RowKit.intOf]) <;> omega
          · have t1 : ((48 : Int) ≤ C) = False := by simp; omega
            go_wp2
            go_roundw
            case rel => exact ⟨k + 1, m, f, by omega, by omega, by omega, by omega, by omega, by simp, rfl, by rw [HN.out, if_neg (by omega)], trivial⟩
            case measure => (simp [RowKit.intOf]) <;> omega
    · obtain rfl : k = l.length := by omega
      have g1 : ((l.length : Int) < l.length) = False := by simp
      have g1' : ((l.length : Int) ≤ l.length) = True := by simp
      have hn2 := rnum_none (hn.trans (nScan_end l e f _ m (Nat.le_refl _))) (by simp)
      have HR := Lib.hid (hR.trans hn2)
      clear hn hn2 hR HX HC
      go_wp2
      refine bodyPost_ret (v := .tuple #[.int .i64 0, .int .i64 (-1)]) (by simp [results, Tryd.results37, go_sem]) rfl ?_
      exact ⟨by rw [HR.out], rfl⟩

end Go.Proofs.YthcgboebmhabeaaDoor

namespace Go.Proofs.YthcgboebmhabeaaDoor
open Go.RowKit Go.Lib
set_option linter.unusedVariables false
set_option linter.unusedSimpArgs false

/-- The digits of a row of bytes as a number. -/
def nVal (ds : List UInt8) (m : Nat) : Nat := ds.foldl (fun m c => if 48 ≤ c.toNat ∧ c.toNat ≤ 57 then m * 10 + (c.toNat - 48) else m) m
theorem nScan_run (l : List UInt8) (e : UInt8) (r : List UInt8) : ∀ (ds : List UInt8) (f i m : Nat), l.drop i = ds ++ e :: r → e ∉ ds → ds.length ≤ f → nScan l e f i m = (nVal ds m, i + ds.length)
  | [], f, i, m, h, _, _ => by
    have h0 : l[i]? = some e := by
      have : (l.drop i)[0]? = some e := by rw [h]; rfl
      simpa using this
    rw [nScan_hit l e f i m h0]
    rfl
  | c :: ds, 0, i, m, _, _, hf => absurd hf (by simp)
  | c :: ds, f + 1, i, m, h, he, hf => by
    have h0 : l[i]? = some c := by
      have : (l.drop i)[0]? = some c := by rw [h]; rfl
      simpa using this
    have h1 : l.drop (i + 1) = ds ++ e :: r := by
      have : (l.drop i).drop 1 = ds ++ e :: r := by rw [h]; rfl
      simpa [List.drop_drop] using this
    have hce : c ≠ e := fun hq => he (by simp [hq])
    rw [nScan_step l e c f i m h0 hce, nScan_run l e r ds f (i + 1) _ h1 (fun hq => he (by simp [hq])) (by simpa using hf)]
    simp only [nVal, List.foldl_cons, List.length_cons]
    rw [show i + 1 + ds.length = i + (ds.length + 1) by omega]
theorem dig3_val : ∀ n, n < 1000 → nVal (dig3 n) 0 = n ∧ (dig3 n).length ≤ 3 ∧ dig3 n ≠ [45, 49] := by decide +kernel
theorem cut_drop (l : List UInt8) (a : Nat) (ds r : List UInt8) (h : l.drop a = ds ++ r) : (⟨l.toArray⟩ : ByteArray).extract a (a + ds.length) = ⟨ds.toArray⟩ := by
  apply ByteArray.ext
  apply Array.ext'
  have : (l.drop a).take ds.length = ds := by rw [h]; simp
  rw [ByteArray.data_extract, List.extract_toArray, List.extract_eq_take_drop, Nat.add_sub_cancel_left, this]
/-- What number answers at a count's numeral. -/
theorem rnum_itoa (l : List UInt8) (a : Nat) (e : UInt8) (r : List UInt8) (n : Int) (h0 : -1 ≤ n) (h1 : n < 1000) (he : e = 44 ∨ e = 59) (h : l.drop a = itoa n ++ e :: r) : rnum l a e = (n, ((a + (itoa n).length : Nat) : Int)) := by
  obtain ⟨-, n44, n59⟩ := atoi_itoa n h0 h1
  have hne : e ∉ itoa n := by rcases he with rfl | rfl <;> assumption
  have hend : l[a + (itoa n).length]? = some e := by
    have : (l.drop a)[(itoa n).length]? = some e := by rw [h]; simp
    simpa using this
  have hcut := cut_drop l a (itoa n) (e :: r) h
  by_cases hn : n = -1
  · subst hn
    have e1 : itoa (-1) = [45, 49] := by
      unfold itoa
      rw [if_pos (by omega)]
      show 45 :: decDigits 1 = _
      rw [decDigits_one (by omega)]
      rfl
    have hs := nScan_run l e r (itoa (-1)) 3 a 0 h hne (by rw [e1]; decide)
    rw [rnum_some hs hend, hcut, e1]
    simp
  · obtain ⟨u, rfl⟩ : ∃ u : Nat, n = (u : Int) := ⟨n.toNat, by omega⟩
    have e1 : itoa (u : Int) = dig3 u := by
      unfold itoa
      rw [if_neg (by omega), ← dec3 u (by omega)]
      simp
    obtain ⟨v1, v2, v3⟩ := dig3_val u (by omega)
    have hs := nScan_run l e r (itoa (u : Int)) 3 a 0 h hne (by rw [e1]; exact v2)
    rw [rnum_some hs hend, hcut, if_neg (by
      rw [e1]
      intro hq
      have := congrArg (fun b : ByteArray => b.data.toList) hq
      exact v3 (by simpa using this)), e1, v1]

end Go.Proofs.YthcgboebmhabeaaDoor

namespace Go.Proofs.YthcgboebmhabeaaDoor
open Go.RowKit Go.Lib
set_option linter.unusedVariables false
set_option linter.unusedSimpArgs false

/-- The loop over pairs of hexadecimal digits up to a closing bracket: the members found, and where the bracket stands. -/
def rbr (s : List UInt8) : Nat → Nat → (Nat → Bool) → Option ((Nat → Bool) × Nat)
  | 0, _, _ => none
  | f + 1, i, F => if i + 1 < s.length ∧ s[i]? ≠ some 93 then rbr s f (i + 2) (fun k => F k || decide (k < 256 ∧ hexl [UInt8.ofNat k] = (s.drop i).take 2)) else if s[i]? = some 93 then some (F, i) else none
theorem hexl_one (b : UInt8) (k : Nat) (hk : k < 256) : hexl [UInt8.ofNat k] = hexl [b] ↔ k = b.toNat := by
  constructor
  · intro h
    have := hexl_inj h
    simp only [List.cons.injEq, and_true] at this
    rw [← this]
    simp
    omega
  · rintro rfl
    simp
theorem hexl_cons (b : UInt8) (l : List UInt8) : hexl (b :: l) = dig (b.toNat / 16) :: dig (b.toNat % 16) :: hexl l := rfl
theorem rbr_hexl (s : List UInt8) (r : List UInt8) : ∀ (l : List UInt8) (f i : Nat) (F : Nat → Bool), s.drop i = hexl l ++ 93 :: r → l.length < f → rbr s f i F = some (fun k => F k || decide (∃ b ∈ l, b.toNat = k), i + (hexl l).length)
  | _, 0, _, _, _, hf => absurd hf (by simp)
  | [], f + 1, i, F, h, _ => by
    have h0 : s[i]? = some 93 := by
      have : (s.drop i)[0]? = some 93 := by rw [h]; rfl
      simpa using this
    simp [rbr, h0, hexl]
  | b :: l, f + 1, i, F, h, hf => by
    have h0 : s[i]? = some (dig (b.toNat / 16)) := by
      have : (s.drop i)[0]? = some (dig (b.toNat / 16)) := by rw [h]; rfl
      simpa using this
    have h1 : s[i + 1]? = some (dig (b.toNat % 16)) := by
      have : (s.drop i)[1]? = some (dig (b.toNat % 16)) := by rw [h]; rfl
      simpa using this
    have hlt : i + 1 < s.length := (List.getElem?_eq_some_iff.1 h1).1
    have hb := b.toNat_lt
    have hne : s[i]? ≠ some 93 := by
      rw [h0]
      intro hq
      exact dig_ne _ (by omega) (Option.some.inj hq)
    have h2 : s.drop (i + 2) = hexl l ++ 93 :: r := by
      have : (s.drop i).drop 2 = hexl l ++ 93 :: r := by rw [h]; rfl
      simpa [List.drop_drop] using this
    have ht : (s.drop i).take 2 = hexl [b] := by rw [h]; rfl
    rw [rbr, if_pos ⟨hlt, hne⟩, rbr_hexl s r l f (i + 2) _ h2 (by simpa using hf), ht]
    have hF : (fun k => (F k || decide (k < 256 ∧ hexl [UInt8.ofNat k] = hexl [b])) || decide (∃ c ∈ l, c.toNat = k)) = fun k => F k || decide (∃ c ∈ b :: l, c.toNat = k) := by
      funext k
      rw [Bool.or_assoc]
      congr 1
      rw [Bool.eq_iff_iff]
      simp only [Bool.or_eq_true, decide_eq_true_eq, List.mem_cons, exists_eq_or_imp]
      constructor
      · rintro (⟨hk, hq⟩ | hq)
        · exact Or.inl ((hexl_one b k hk).1 hq).symm
        · exact Or.inr hq
      · rintro (hq | hq)
        · exact Or.inl ⟨by omega, (hexl_one b k (by omega)).2 hq.symm⟩
        · exact Or.inr hq
    rw [hF, hexl_cons]
    simp only [List.length_cons]
    rw [show i + 2 + (hexl l).length = i + ((hexl l).length + 1 + 1) by omega]

end Go.Proofs.YthcgboebmhabeaaDoor

namespace Go.Proofs.YthcgboebmhabeaaDoor
open Go.RowKit Go.Lib
set_option linter.unusedVariables false
set_option linter.unusedSimpArgs false

def setNd (F : Nat → Bool) : Nd := ⟨1, wd F 0, wd F 1, wd F 2, wd F 3, 0, 0, 0, 0, 0⟩
theorem setNd_bytes (l : List UInt8) : setNd (fun k => false || decide (∃ b ∈ l, b.toNat = k)) = bytesNd l := by
  have e : (fun k => false || decide (∃ b ∈ l, b.toNat = k)) = inS ⟨l.toArray⟩ l.length := by
    funext k
    unfold inS
    rw [Bool.eq_iff_iff]
    simp
  unfold setNd bytesNd
  rw [e]
/-- What read answers, but for a failure (it then answers the nodes and the groups it was given, and -1): f is how much deeper it may go. -/
def rr (s : List UInt8) : Nat → Nat → List Nd → Nat → Option (List Nd × Nat × Nat)
  | 0, _, _, _ => none
  | f + 1, a, xs, g => match s[a]? with
    | none => none
    | some c =>
      if c = 101 then some (xs ++ [⟨0, 0, 0, 0, 0, 0, 0, 0, 0, 0⟩], g, a + 1)
      else if c = 94 then some (xs ++ [⟨2, 0, 0, 0, 0, 0, 0, 0, 0, 0⟩], g, a + 1)
      else if c = 36 then some (xs ++ [⟨3, 0, 0, 0, 0, 0, 0, 0, 0, 0⟩], g, a + 1)
      else if c = 91 then (rbr s (s.length + 1) (a + 1) fun _ => false).map fun p => (xs ++ [setNd p.1], g, p.2 + 1)
      else if c = 38 ∨ c = 124 then (rr s f (a + 1) xs g).bind fun p => (rr s f p.2.2 p.1 p.2.1).map fun q => (q.1 ++ [⟨if c = 38 then 4 else 5, 0, 0, 0, 0, (p.1.length : Int) - 1, (q.1.length : Int) - 1, 0, 0, 0⟩], q.2.1, q.2.2)
      else if c = 42 then
        if (rnum s (a + 1) 44).2 < 0 then none
        else if (rnum s ((rnum s (a + 1) 44).2.toNat + 1) 59).2 < 0 then none
        else (rr s f ((rnum s ((rnum s (a + 1) 44).2.toNat + 1) 59).2.toNat + 1) xs g).map fun p => (p.1 ++ [⟨6, 0, 0, 0, 0, (p.1.length : Int) - 1, 0, (rnum s (a + 1) 44).1, (rnum s ((rnum s (a + 1) 44).2.toNat + 1) 59).1, 0⟩], p.2.1, p.2.2)
      else if c = 40 then (rr s f (a + 1) xs (g + 1)).bind fun p => if s[p.2.2]? = some 41 then some (p.1 ++ [⟨7, 0, 0, 0, 0, (p.1.length : Int) - 1, 0, 0, 0, (g : Int) + 1⟩], p.2.1, p.2.2 + 1) else none
      else if c = 92 then match s[a + 1]? with
        | none => none
        | some d => if 48 ≤ d.toNat ∧ d.toNat ≤ 57 then some (xs ++ [⟨8, 0, 0, 0, 0, 0, 0, 0, 0, (d.toNat : Int) - 48⟩], g, a + 2) else none
      else none

theorem at_drop {s l r : List UInt8} {a : Nat} {c : UInt8} (h : s.drop a = c :: l ++ r) : s[a]? = some c ∧ s.drop (a + 1) = l ++ r := by
  constructor
  · have : (s.drop a)[0]? = some c := by rw [h]; rfl
    simpa using this
  · have : (s.drop a).drop 1 = l ++ r := by rw [h]; rfl
    simpa [List.drop_drop] using this
theorem drop_more {s l r : List UInt8} {a : Nat} (h : s.drop a = l ++ r) : s.drop (a + l.length) = r := by
  have : (s.drop a).drop l.length = r := by rw [h]; simp
  simpa [List.drop_drop] using this

theorem rr_text (s : List UInt8) : ∀ (t : T) (f a : Nat) (xs : List Nd) (en : Nat → Bool) (g : Nat) (u : Nat × (Nat → Bool)) (r : List UInt8), t.Ok → TFits t → num t (g, en) = some u → s.drop a = text t ++ r → t.size ≤ f →
    rr s f a xs g = some (xs ++ t.nodes xs.length, u.1, a + (text t).length) := by
  intro t
  induction t with
  | leaf x =>
    intro f a xs en g u r ok fit hn hl hf
    have hu := num_fst _ _ _ hn
    simp only [T.groups, Nat.add_zero] at hu
    simp only [T.size] at hf
    obtain ⟨f, rfl⟩ : ∃ m, f = m + 1 := ⟨f - 1, by omega⟩
    obtain ⟨nx, kx⟩ := ok
    have z : (x.kind = 0 ∨ x.kind = 2 ∨ x.kind = 3) → x = ⟨x.kind, 0, 0, 0, 0, 0, 0, 0, 0, 0⟩ := fun hk => by
      have hu := nx
      unfold isNd at hu; rw [if_pos hk] at hu; exact of_decide_eq_true hu
    rcases kx with k | k | k | k | k
    · have e := z (.inl k); rw [k] at e
      have h0 := (at_drop (l := []) (c := 101) (by simpa [text, leafText, k] using hl)).1
      simp [rr, h0, text, leafText, k, T.nodes, hu, ← e]
    · have hh : s.drop a = 91 :: (hexl (bytesOf x.set).data.toList ++ [93]) ++ r := by simpa [text, leafText, k] using hl
      obtain ⟨h0, h1⟩ := at_drop hh
      have hb2 := unit_read (x := x) fit ⟨nx, .inr (.inl k)⟩ k
      have hh1 : s.drop (a + 1) = hexl (bytesOf x.set).data.toList ++ 93 :: r := by rw [h1]; simp
      have hlen : (bytesOf x.set).data.toList.length < s.length + 1 := by
        have q1 := congrArg List.length hh1
        rw [List.length_drop, List.length_append, hexl_len] at q1
        omega
      have hb := rbr_hexl s r _ (s.length + 1) (a + 1) (fun _ => false) hh1 hlen
      simp only [rr, h0, hb, Option.map_some, setNd_bytes, hb2]
      simp [text, leafText, k, T.nodes, hu]
      omega
    · have e := z (.inr (.inl k)); rw [k] at e
      have h0 := (at_drop (l := []) (c := 94) (by simpa [text, leafText, k] using hl)).1
      simp [rr, h0, text, leafText, k, T.nodes, hu, ← e]
    · have e := z (.inr (.inr k)); rw [k] at e
      have h0 := (at_drop (l := []) (c := 36) (by simpa [text, leafText, k] using hl)).1
      simp [rr, h0, text, leafText, k, T.nodes, hu, ← e]
    · have nx' := nx
      unfold isNd at nx'
      rw [if_neg (by omega), if_neg (by omega), if_neg (by omega), if_neg (by omega), if_neg (by omega), if_pos k, Bool.and_eq_true] at nx'
      have e := of_decide_eq_true nx'.2
      have hd := digit_one nx'.1
      have h19 := num_of nx'.1
      obtain ⟨c, hc⟩ : ∃ c, c = UInt8.ofNat (48 + x.n.toNat) := ⟨_, rfl⟩
      rw [← hc] at hd
      have hcn : c.toNat = 48 + x.n.toNat := by rw [hc]; simp; omega
      obtain ⟨h0, h1⟩ := at_drop (s := s) (a := a) (c := 92) (l := [c]) (r := r) (by simpa [text, leafText, k, hd] using hl)
      have h2 := (at_drop (l := []) h1).1
      have er : (⟨8, 0, 0, 0, 0, 0, 0, 0, 0, (c.toNat : Int) - 48⟩ : Nd) = x := by
        rw [e, hcn]
        simp
        omega
      simp only [rr, h0, h2, er]
      rw [if_neg (by decide), if_neg (by decide), if_neg (by decide), if_neg (by decide), if_neg (by decide), if_neg (by decide), if_neg (by decide), if_pos trivial, if_pos (by omega)]
      simp [text, leafText, k, T.nodes, hu, hd]
  | two k p q ihp ihq =>
    intro f a xs en g u r ok fit hn hl hf
    simp only [num, Option.bind_eq_some_iff] at hn
    obtain ⟨v, hn1, hn2⟩ := hn
    simp only [T.size] at hf
    obtain ⟨f, rfl⟩ : ∃ m, f = m + 1 := ⟨f - 1, by omega⟩
    obtain ⟨hk, op, oq⟩ := ok
    have s1 := p.size_pos
    have s2 := q.size_pos
    obtain ⟨h0, h1⟩ := at_drop (s := s) (a := a) (c := if k = 4 then 38 else 124) (l := text p ++ text q) (r := r) hl
    have h1' : s.drop (a + 1) = text p ++ (text q ++ r) := by rw [h1, List.append_assoc]
    have l1 := ihp f (a + 1) xs en g v (text q ++ r) op fit.1 hn1 h1' (by omega)
    have l2 := ihq f (a + 1 + (text p).length) (xs ++ p.nodes xs.length) v.2 v.1 u r oq fit.2 hn2 (drop_more h1') (by omega)
    simp only [List.length_append, T.nodes_len] at l2
    rcases hk with rfl | rfl
    · simp only [rr, h0, l1, l2]
      simp [l2, text, T.nodes, T.root, T.nodes_len]
      omega
    · simp only [rr, h0, l1, l2]
      simp [l2, text, T.nodes, T.root, T.nodes_len]
      omega
  | times m M t ih =>
    intro f a xs en g u r ok fit hn hl hf
    simp only [T.size] at hf
    obtain ⟨f, rfl⟩ : ∃ m, f = m + 1 := ⟨f - 1, by omega⟩
    obtain ⟨hc, ot⟩ := ok
    have hn' : num t (g, en) = some u := hn
    have hcn : (-1 ≤ m ∧ m < 1000) ∧ (-1 ≤ M ∧ M < 1000) := by
      unfold isCnt at hc
      split at hc
      · cases hc
      · have := of_decide_eq_true hc
        omega
    obtain ⟨h0, h1⟩ := at_drop (s := s) (a := a) (c := 42) (l := itoa m ++ 44 :: (itoa M ++ 59 :: text t)) (r := r) hl
    have d1 : s.drop (a + 1) = itoa m ++ 44 :: (itoa M ++ 59 :: (text t ++ r)) := by rw [h1]; simp
    have r1 := rnum_itoa s (a + 1) 44 _ m hcn.1.1 hcn.1.2 (.inl rfl) d1
    have d2 := (at_drop (l := itoa M ++ 59 :: (text t ++ r)) (r := []) (by simpa using drop_more d1)).2
    rw [List.append_nil] at d2
    have r2 := rnum_itoa s _ 59 _ M hcn.2.1 hcn.2.2 (.inr rfl) d2
    have d3 := (at_drop (l := text t) (r := r) (by simpa using drop_more d2)).2
    have l1 := ih f _ xs en g u r ot fit hn' d3 (by omega)
    simp only [rr, h0]
    rw [if_neg (by decide), if_neg (by decide), if_neg (by decide), if_neg (by decide), if_neg (by decide), if_pos trivial, r1]
    simp only [Int.toNat_natCast]
    rw [r2]
    simp only [Int.toNat_natCast]
    rw [l1, if_neg (by omega), if_neg (by omega)]
    simp [text, T.nodes, T.root, T.nodes_len]
    omega
  | group k t ih =>
    intro f a xs en g u r ok fit hn hl hf
    simp only [T.size] at hf
    obtain ⟨f, rfl⟩ : ∃ m, f = m + 1 := ⟨f - 1, by omega⟩
    obtain ⟨hc, ot⟩ := ok
    simp only [num] at hn
    split at hn
    · rename_i hkk
      rw [Option.map_eq_some_iff] at hn
      obtain ⟨v, hv, rfl⟩ := hn
      have hk' : k = (g : Int) + 1 := hkk
      obtain ⟨h0, h1⟩ := at_drop (s := s) (a := a) (c := 40) (l := text t ++ [41]) (r := r) hl
      have h1' : s.drop (a + 1) = text t ++ (41 :: r) := by rw [h1]; simp
      have l1 := ih f (a + 1) xs en (g + 1) v (41 :: r) ot fit hv h1' (by omega)
      have h2 := (at_drop (l := []) (r := r) (c := 41) (by simpa using drop_more h1')).1
      simp only [rr, h0, l1]
      rw [if_neg (by decide), if_neg (by decide), if_neg (by decide), if_neg (by decide), if_neg (by decide), if_neg (by decide), if_pos trivial]
      simp only [Option.bind_some]
      rw [if_pos h2]
      simp [text, T.nodes, T.root, T.nodes_len, hk']
      omega
    · cases hn

end Go.Proofs.YthcgboebmhabeaaDoor

namespace Go.Proofs.YthcgboebmhabeaaDoor
open Go.RowKit Go.Lib
set_option linter.unusedVariables false
set_option linter.unusedSimpArgs false

theorem nScan_place (l : List UInt8) (e : UInt8) : ∀ (f i n : Nat), i ≤ (nScan l e f i n).2 ∧ (nScan l e f i n).2 ≤ i + f
  | 0, i, n => ⟨Nat.le_refl _, Nat.le_refl _⟩
  | f + 1, i, n => by
    unfold nScan
    split
    · exact ⟨Nat.le_refl _, by simp⟩
    · split
      · exact ⟨Nat.le_refl _, by simp⟩
      · have := nScan_place l e f (i + 1) (if 48 ≤ (‹UInt8›).toNat ∧ (‹UInt8›).toNat ≤ 57 then n * 10 + ((‹UInt8›).toNat - 48) else n)
        omega
theorem rnum_place (l : List UInt8) (a : Nat) (e : UInt8) (h : ¬ (rnum l a e).2 < 0) : a ≤ (rnum l a e).2.toNat ∧ (rnum l a e).2.toNat < l.length := by
  unfold rnum at *
  split at h
  · rename_i hq
    rw [if_pos hq]
    have := nScan_place l e 3 a 0
    have h2 := (List.getElem?_eq_some_iff.1 hq).1
    simp
    omega
  · simp at h
theorem rbr_place (s : List UInt8) : ∀ (f i : Nat) (F : Nat → Bool) (p : (Nat → Bool) × Nat), rbr s f i F = some p → i ≤ p.2 ∧ p.2 < s.length
  | 0, i, F, p, h => by simp [rbr] at h
  | f + 1, i, F, p, h => by
    unfold rbr at h
    split at h
    · have := rbr_place s f (i + 2) _ p h
      omega
    · split at h
      · rename_i hq
        cases h
        exact ⟨Nat.le_refl _, (List.getElem?_eq_some_iff.1 hq).1⟩
      · cases h
/-- Nodes and groups are no more than the bytes read. -/
structure RGo (s : List UInt8) (a : Nat) (xs : List Nd) (g : Nat) (p : List Nd × Nat × Nat) : Prop where
  pre : ∃ ys, p.1 = xs ++ ys
  i : a < p.2.2
  l : p.2.2 ≤ s.length
  n : p.1.length + a ≤ xs.length + p.2.2
  n1 : xs.length < p.1.length
  g0 : g ≤ p.2.1
  g1 : p.2.1 + a ≤ g + p.2.2
theorem rr_goes (s : List UInt8) : ∀ (f a : Nat) (xs : List Nd) (g : Nat) (p : List Nd × Nat × Nat), rr s f a xs g = some p → RGo s a xs g p
  | 0, a, xs, g, p, h => by simp [rr] at h
  | f + 1, a, xs, g, p, h => by
    unfold rr at h
    split at h
    · cases h
    · rename_i c hc
      have ha := (List.getElem?_eq_some_iff.1 hc).1
      split at h
      · cases h; exact ⟨⟨_, rfl⟩, by simp, ha, by simp; omega, by simp, by simp, by simp⟩
      split at h
      · cases h; exact ⟨⟨_, rfl⟩, by simp, ha, by simp; omega, by simp, by simp, by simp⟩
      split at h
      · cases h; exact ⟨⟨_, rfl⟩, by simp, ha, by simp; omega, by simp, by simp, by simp⟩
      split at h
      · rw [Option.map_eq_some_iff] at h
        obtain ⟨q, hq, rfl⟩ := h
        have := rbr_place s _ _ _ q hq
        exact ⟨⟨_, rfl⟩, by simp; omega, by simp; omega, by simp; omega, by simp, by simp, by simp; omega⟩
      split at h
      · rw [Option.bind_eq_some_iff] at h
        obtain ⟨q, hq, h⟩ := h
        rw [Option.map_eq_some_iff] at h
        obtain ⟨q2, hq2, rfl⟩ := h
        have r1 := rr_goes s f _ _ _ q hq
        have r2 := rr_goes s f _ _ _ q2 hq2
        obtain ⟨y1, e1⟩ := r1.pre
        obtain ⟨y2, e2⟩ := r2.pre
        have := r1.i; have := r1.l; have := r1.n; have := r1.n1; have := r1.g0; have := r1.g1
        have := r2.i; have := r2.l; have := r2.n; have := r2.n1; have := r2.g0; have := r2.g1
        exact ⟨⟨y1 ++ (y2 ++ _), by rw [e2, e1, List.append_assoc, List.append_assoc]⟩, by simp; omega, by simp; omega, by simp; omega, by simp; omega, by simp; omega, by simp; omega⟩
      split at h
      · split at h
        · cases h
        split at h
        · cases h
        rename_i w1 w2
        rw [Option.map_eq_some_iff] at h
        obtain ⟨q, hq, rfl⟩ := h
        have p1 := rnum_place s (a + 1) 44 w1
        have p2 := rnum_place s _ 59 w2
        have r1 := rr_goes s f _ _ _ q hq
        obtain ⟨y1, e1⟩ := r1.pre
        have := r1.i; have := r1.l; have := r1.n; have := r1.n1; have := r1.g0; have := r1.g1
        exact ⟨⟨y1 ++ _, by rw [e1, List.append_assoc]⟩, by simp; omega, by simp; omega, by simp; omega, by simp; omega, by simp; omega, by simp; omega⟩
      split at h
      · rw [Option.bind_eq_some_iff] at h
        obtain ⟨q, hq, h⟩ := h
        split at h
        · rename_i hb
          cases h
          have hb2 := (List.getElem?_eq_some_iff.1 hb).1
          have r1 := rr_goes s f _ _ _ q hq
          obtain ⟨y1, e1⟩ := r1.pre
          have := r1.i; have := r1.l; have := r1.n; have := r1.n1; have := r1.g0; have := r1.g1
          exact ⟨⟨y1 ++ _, by rw [e1, List.append_assoc]⟩, by simp; omega, by simp; omega, by simp; omega, by simp; omega, by simp; omega, by simp; omega⟩
        · cases h
      split at h
      · split at h
        · cases h
        · rename_i d hd
          have hd2 := (List.getElem?_eq_some_iff.1 hd).1
          split at h
          · cases h; exact ⟨⟨_, rfl⟩, by simp, by simp; omega, by simp; omega, by simp, by simp, by simp⟩
          · cases h
      · cases h

end Go.Proofs.YthcgboebmhabeaaDoor

namespace Go.Proofs.YthcgboebmhabeaaDoor
open Go.RowKit Go.Lib
set_option linter.unusedVariables false
set_option linter.unusedSimpArgs false

theorem nScan_small (l : List UInt8) (e : UInt8) : ∀ (f i n : Nat), (nScan l e f i n).1 + 1 ≤ (n + 1) * 10 ^ f
  | 0, i, n => by simp [nScan]
  | f + 1, i, n => by
    have hp : 0 < 10 ^ f := Nat.pow_pos (by omega)
    have h1 : n + 1 ≤ (n + 1) * 10 ^ (f + 1) := Nat.le_mul_of_pos_right _ (Nat.pow_pos (by omega))
    unfold nScan
    split
    · exact h1
    · rename_i c hc
      split
      · exact h1
      · have := nScan_small l e f (i + 1) (if 48 ≤ c.toNat ∧ c.toNat ≤ 57 then n * 10 + (c.toNat - 48) else n)
        refine Nat.le_trans this ?_
        rw [Nat.pow_succ, Nat.mul_comm (10 ^ f) 10, ← Nat.mul_assoc]
        exact Nat.mul_le_mul_right _ (by split <;> omega)
theorem rnum_small (l : List UInt8) (a : Nat) (e : UInt8) : -1 ≤ (rnum l a e).1 ∧ (rnum l a e).1 < 1000 := by
  have := nScan_small l e 3 a 0
  unfold rnum
  split
  · dsimp only
    split
    · omega
    · omega
  · simp
theorem fits_app {xs : List Nd} {x : Nd} (h : ∀ y ∈ xs, y.Fits) (hx : x.Fits) : ∀ y ∈ xs ++ [x], y.Fits := fun y hy => by
  rcases List.mem_append.1 hy with h1 | h1
  · exact h y h1
  · rw [List.mem_singleton.1 h1]; exact hx
theorem small_fits (k a b m M n : Int) (hk : 0 ≤ k ∧ k < 10) (ha : -1 ≤ a ∧ a < 10000000) (hb : -1 ≤ b ∧ b < 10000000) (hm : -1 ≤ m ∧ m < 10000000) (hM : -1 ≤ M ∧ M < 10000000) (hn : -1000 ≤ n ∧ n < 10000000) : (⟨k, 0, 0, 0, 0, a, b, m, M, n⟩ : Nd).Fits :=
  ⟨by dsimp only; omega, by simp, by simp, by simp, by simp, by dsimp only; omega, by dsimp only; omega, by dsimp only; omega, by dsimp only; omega, by dsimp only; omega⟩
theorem setNd_fits (F : Nat → Bool) : (setNd F).Fits := ⟨by simp [setNd], wd_lt _ _, wd_lt _ _, wd_lt _ _, wd_lt _ _, by simp [setNd], by simp [setNd], by simp [setNd], by simp [setNd], by simp [setNd]⟩
theorem rr_fits (s : List UInt8) (hs : s.length ≤ 100000) : ∀ (f a : Nat) (xs : List Nd) (g : Nat) (p : List Nd × Nat × Nat), rr s f a xs g = some p → (∀ x ∈ xs, x.Fits) → xs.length ≤ a → g ≤ a → ∀ x ∈ p.1, x.Fits
  | 0, a, xs, g, p, h, _, _, _ => by simp [rr] at h
  | f + 1, a, xs, g, p, h, hx, hl, hg => by
    unfold rr at h
    split at h
    · cases h
    · rename_i c hc
      have ha := (List.getElem?_eq_some_iff.1 hc).1
      split at h
      · cases h; exact fits_app hx (small_fits 0 0 0 0 0 0 (by omega) (by omega) (by omega) (by omega) (by omega) (by omega))
      split at h
      · cases h; exact fits_app hx (small_fits 2 0 0 0 0 0 (by omega) (by omega) (by omega) (by omega) (by omega) (by omega))
      split at h
      · cases h; exact fits_app hx (small_fits 3 0 0 0 0 0 (by omega) (by omega) (by omega) (by omega) (by omega) (by omega))
      split at h
      · rw [Option.map_eq_some_iff] at h
        obtain ⟨q, hq, rfl⟩ := h
        exact fits_app hx (setNd_fits _)
      split at h
      · rw [Option.bind_eq_some_iff] at h
        obtain ⟨q, hq, h⟩ := h
        rw [Option.map_eq_some_iff] at h
        obtain ⟨q2, hq2, rfl⟩ := h
        have r1 := rr_goes s f _ _ _ q hq
        have r2 := rr_goes s f _ _ _ q2 hq2
        have := r1.i; have := r1.l; have := r1.n; have := r1.n1; have := r1.g0; have := r1.g1
        have := r2.i; have := r2.l; have := r2.n; have := r2.n1; have := r2.g0; have := r2.g1
        have f1 := rr_fits s hs f _ _ _ q hq hx (by omega) (by omega)
        have f2 := rr_fits s hs f _ _ _ q2 hq2 f1 (by omega) (by omega)
        exact fits_app f2 (small_fits _ _ _ 0 0 0 (by split <;> omega) (by omega) (by omega) (by omega) (by omega) (by omega))
      split at h
      · split at h
        · cases h
        split at h
        · cases h
        rename_i w1 w2
        rw [Option.map_eq_some_iff] at h
        obtain ⟨q, hq, rfl⟩ := h
        have p1 := rnum_place s (a + 1) 44 w1
        have p2 := rnum_place s _ 59 w2
        have b1 := rnum_small s (a + 1) 44
        have b2 := rnum_small s ((rnum s (a + 1) 44).2.toNat + 1) 59
        have r1 := rr_goes s f _ _ _ q hq
        have := r1.i; have := r1.l; have := r1.n; have := r1.n1; have := r1.g0; have := r1.g1
        have f1 := rr_fits s hs f _ _ _ q hq hx (by omega) (by omega)
        exact fits_app f1 (small_fits 6 _ 0 _ _ 0 (by omega) (by omega) (by omega) (by omega) (by omega) (by omega))
      split at h
      · rw [Option.bind_eq_some_iff] at h
        obtain ⟨q, hq, h⟩ := h
        split at h
        · cases h
          have r1 := rr_goes s f _ _ _ q hq
          have := r1.i; have := r1.l; have := r1.n; have := r1.n1; have := r1.g0; have := r1.g1
          have f1 := rr_fits s hs f _ _ _ q hq hx (by omega) (by omega)
          exact fits_app f1 (small_fits 7 _ 0 0 0 _ (by omega) (by omega) (by omega) (by omega) (by omega) (by omega))
        · cases h
      split at h
      · split at h
        · cases h
        · rename_i d hd
          have hd2 := d.toNat_lt
          split at h
          · cases h; exact fits_app hx (small_fits 8 0 0 0 0 _ (by omega) (by omega) (by omega) (by omega) (by omega) (by omega))
          · cases h
      · cases h

end Go.Proofs.YthcgboebmhabeaaDoor
