/- Trans, of no program: pieces, lists, and how they are read. -/
import Derived.Lib.Hide
namespace Go.Proofs.YthnadcmejaciaaaDoor
set_option linter.unusedVariables false
set_option linter.unusedSimpArgs false

/-- The piece of a byte. -/
def pc (b : UInt8) : List UInt8 :=
  if b = 7 then [92, 97] else if b = 8 then [92, 98] else if b = 9 then [92, 116] else if b = 10 then [92, 110] else if b = 11 then [92, 118]
  else if b = 12 then [92, 102] else if b = 13 then [92, 114] else if b = 92 then [92, 92]
  else if b < 32 ∨ 126 < b then [92, 48 + b / 64, 48 + b / 8 % 8, 48 + b % 8] else [b]
/-- What a text begins by telling. -/
def dec3 (d : UInt8) : List UInt8 → Option UInt8
  | x :: y :: _ => some ((d - 48) * 64 + (x - 48) * 8 + (y - 48))
  | _ => none
def dec2 : List UInt8 → Option UInt8
  | [] => none
  | d :: m => if d = 97 then some 7 else if d = 98 then some 8 else if d = 116 then some 9 else if d = 110 then some 10 else if d = 118 then some 11
      else if d = 102 then some 12 else if d = 114 then some 13 else if d = 92 then some 92 else dec3 d m
def dec : List UInt8 → Option UInt8
  | [] => none
  | c :: l => if c ≠ 92 then some c else dec2 l
theorem ite8 {p1 p2 p3 p4 p5 p6 p7 p8 : Prop} [Decidable p1] [Decidable p2] [Decidable p3] [Decidable p4] [Decidable p5] [Decidable p6] [Decidable p7] [Decidable p8] {a1 a2 a3 a4 a5 a6 a7 a8 z : Option UInt8} {b : UInt8}
    (h : (if p1 then a1 else if p2 then a2 else if p3 then a3 else if p4 then a4 else if p5 then a5 else if p6 then a6 else if p7 then a7 else if p8 then a8 else none) = some b) :
    (if p1 then a1 else if p2 then a2 else if p3 then a3 else if p4 then a4 else if p5 then a5 else if p6 then a6 else if p7 then a7 else if p8 then a8 else z) = some b := by
  by_cases h1 : p1
  · rw [if_pos h1] at h ⊢; exact h
  rw [if_neg h1] at h ⊢
  by_cases h2 : p2
  · rw [if_pos h2] at h ⊢; exact h
  rw [if_neg h2] at h ⊢
  by_cases h3 : p3
  · rw [if_pos h3] at h ⊢; exact h
  rw [if_neg h3] at h ⊢
  by_cases h4 : p4
  · rw [if_pos h4] at h ⊢; exact h
  rw [if_neg h4] at h ⊢
  by_cases h5 : p5
  · rw [if_pos h5] at h ⊢; exact h
  rw [if_neg h5] at h ⊢
  by_cases h6 : p6
  · rw [if_pos h6] at h ⊢; exact h
  rw [if_neg h6] at h ⊢
  by_cases h7 : p7
  · rw [if_pos h7] at h ⊢; exact h
  rw [if_neg h7] at h ⊢
  by_cases h8 : p8
  · rw [if_pos h8] at h ⊢; exact h
  rw [if_neg h8] at h; cases h
theorem dec_app (p r : List UInt8) (b : UInt8) (h : dec p = some b) : dec (p ++ r) = some b := by
  match p, h with
  | [], h => cases h
  | c :: l, h =>
    by_cases hc : c ≠ 92
    · simp only [dec, List.cons_append, if_pos hc] at h ⊢; exact h
    · simp only [dec, List.cons_append, if_neg hc] at h ⊢
      match l, h with
      | [], h => cases h
      | [d], h => exact ite8 h
      | [d, x], h => exact ite8 h
      | d :: x :: y :: z, h => exact h
theorem all_u8 (p : UInt8 → Bool) (h : (List.range 256).all (fun n => p (UInt8.ofNat n)) = true) (b : UInt8) : p b = true := by
  have := List.all_eq_true.1 h b.toNat (List.mem_range.2 b.toNat_lt)
  rwa [UInt8.ofNat_toNat] at this
theorem dec_pc (b : UInt8) : dec (pc b) = some b := by
  have := all_u8 (fun b => decide (dec (pc b) = some b)) (by decide +kernel) b
  simpa using this
/-- No line's end and no 127 or more in it; a byte 36 alone. -/
def pcOk (b : UInt8) : Bool := (pc b).all (fun c => decide (32 ≤ c) && decide (c ≤ 126)) && decide (1 ≤ (pc b).length) && decide ((pc b).length ≤ 4) && decide ((pc b).length ≠ 3)
theorem pc_ok (b : UInt8) : pcOk b = true := all_u8 pcOk (by decide +kernel) b
theorem pc_len (b : UInt8) : 1 ≤ (pc b).length ∧ (pc b).length ≤ 4 := by
  have := pc_ok b; simp [pcOk] at this; omega
theorem pc_byte (b c : UInt8) (h : c ∈ pc b) : 32 ≤ c ∧ c ≤ 126 := by
  have := pc_ok b; simp only [pcOk, Bool.and_eq_true, List.all_eq_true, decide_eq_true_iff] at this
  have := this.1.1.1 c h; simpa using this
theorem pc_no10 (b : UInt8) : (10 : UInt8) ∉ pc b := fun h => by have := (pc_byte b 10 h).1; exact absurd this (by decide)
theorem pc_ne (b : UInt8) : pc b ≠ [] := fun h => by have := (pc_len b).1; rw [h] at this; simp at this

/-- The pieces are told apart by any text that begins by one. -/
theorem pc_uniq {a b : UInt8} {L : List UInt8} (ha : pc a <+: L) (hb : pc b <+: L) : a = b := by
  obtain ⟨r, rfl⟩ := ha
  obtain ⟨s, hs⟩ := hb
  have h1 := dec_app _ r _ (dec_pc a)
  have h2 := dec_app _ s _ (dec_pc b)
  rw [hs, h1] at h2
  exact Option.some.inj h2

/-- The first byte whose piece a text begins by. -/
def fst (l : List UInt8) : Option UInt8 := (List.range 256).findSome? fun n => if pc (UInt8.ofNat n) <+: l then some (UInt8.ofNat n) else none
theorem fst_some {l : List UInt8} {b : UInt8} (h : fst l = some b) : pc b <+: l := by
  obtain ⟨n, _, hn⟩ := List.exists_of_findSome?_eq_some h
  split at hn
  · cases hn; assumption
  · cases hn
theorem fst_none {l : List UInt8} (h : fst l = none) (b : UInt8) : ¬ pc b <+: l := by
  have := List.findSome?_eq_none_iff.1 h b.toNat (by simp; exact b.toNat_lt)
  intro hb
  simp [hb] at this
theorem fst_iff {l : List UInt8} {b : UInt8} : fst l = some b ↔ pc b <+: l := by
  constructor
  · exact fst_some
  · intro h
    cases hf : fst l with
    | none => exact absurd h (fst_none hf b)
    | some a => rw [pc_uniq (fst_some hf) h]
theorem fst_pc (b : UInt8) (r : List UInt8) : fst (pc b ++ r) = some b := fst_iff.2 ⟨r, rfl⟩

/-- Is a new line begun ahead of a piece of n bytes? -/
def brk (width : Int) (line n : Nat) : Bool := decide (2 ≤ width) && decide (0 < line) && decide (width - 1 < (line + n : Nat))
/-- The list without its end. -/
def body (width : Int) : Nat → List UInt8 → List UInt8
  | _, [] => []
  | line, b :: l => if brk width line (pc b).length then [92, 10] ++ pc b ++ body width (pc b).length l else pc b ++ body width (line + (pc b).length) l
def lst (s : List UInt8) (width : Int) : List UInt8 := body width 0 s ++ [36, 10]
/-- The line's length behind a text. -/
def lineOf (width : Int) : Nat → List UInt8 → Nat
  | line, [] => line
  | line, b :: l => if brk width line (pc b).length then lineOf width (pc b).length l else lineOf width (line + (pc b).length) l
theorem body_snoc (width : Int) (b : UInt8) : ∀ (line : Nat) (s : List UInt8), body width line (s ++ [b]) = body width line s ++ (if brk width (lineOf width line s) (pc b).length then [92, 10] ++ pc b else pc b)
  | line, [] => by simp only [List.nil_append, body, lineOf, List.append_nil]; rfl
  | line, c :: l => by
    simp only [List.cons_append, body, lineOf]
    split
    · rw [body_snoc]; simp
    · rw [body_snoc]; simp
theorem line_snoc (width : Int) (b : UInt8) : ∀ (line : Nat) (s : List UInt8), lineOf width line (s ++ [b]) = if brk width (lineOf width line s) (pc b).length then (pc b).length else lineOf width line s + (pc b).length
  | line, [] => rfl
  | line, c :: l => by
    simp only [List.cons_append, lineOf]
    split
    · rw [line_snoc]
    · rw [line_snoc]
theorem body_len (width : Int) : ∀ (line : Nat) (s : List UInt8), (body width line s).length ≤ 6 * s.length
  | _, [] => by simp [body]
  | line, b :: l => by
    have := pc_len b
    simp only [body]
    split
    · have := body_len width (pc b).length l
      simp; omega
    · have := body_len width (line + (pc b).length) l
      simp; omega
theorem body_ge (width : Int) : ∀ (line : Nat) (s : List UInt8), s.length ≤ (body width line s).length
  | _, [] => by simp [body]
  | line, b :: l => by
    have := pc_len b
    simp only [body]
    split
    · have := body_ge width (pc b).length l
      simp; omega
    · have := body_ge width (line + (pc b).length) l
      simp; omega
theorem line_le (width : Int) : ∀ (line : Nat) (s : List UInt8), lineOf width line s ≤ line + 4 * s.length
  | _, [] => by simp [lineOf]
  | line, b :: l => by
    have := pc_len b
    simp only [lineOf]
    split
    · have := line_le width (pc b).length l
      simp; omega
    · have := line_le width (line + (pc b).length) l
      simp; omega

/-- The text that the reference reads out of a list: what is left of two bytes is not read. -/
def rdr : Nat → List UInt8 → Option (List UInt8)
  | 0, _ => none
  | n + 1, l => if l.length ≤ 2 then some [] else if [92, 10] <+: l then rdr n (l.drop 2) else match fst l with
    | none => none
    | some b => (rdr n (l.drop (pc b).length)).map (b :: ·)
theorem pc_fold (b : UInt8) (r : List UInt8) : ¬ [92, 10] <+: pc b ++ r := by
  rintro ⟨t, ht⟩
  have h10 := pc_no10 b
  have hne := pc_ne b
  match hp : pc b, h10, hne with
  | [], _, h => exact h rfl
  | [c], _, _ =>
    rw [hp] at ht
    simp at ht
    have h0 := dec_pc b
    rw [hp] at h0
    obtain ⟨rfl, _⟩ := ht
    simp [dec, dec2] at h0
  | c :: d :: m, h, _ =>
    rw [hp] at ht
    simp at ht
    apply h
    rw [← ht.2.1]; simp
theorem rdr_lst (width : Int) : ∀ (s : List UInt8) (line n : Nat), 2 * s.length < n → rdr n (body width line s ++ [36, 10]) = some s
  | [], line, n, h => by
    obtain ⟨m, rfl⟩ : ∃ m, n = m + 1 := ⟨n - 1, by simp at h; omega⟩
    simp [body, rdr]
  | b :: l, line, n, h => by
    have hp := pc_len b
    obtain ⟨m, rfl⟩ : ∃ m, n = m + 1 := ⟨n - 1, by simp at h; omega⟩
    obtain ⟨k, rfl⟩ : ∃ k, m = k + 1 := ⟨m - 1, by simp at h; omega⟩
    simp only [List.length_cons] at h
    have stp : ∀ (q : Nat) (r : List UInt8), 2 ≤ r.length → rdr (q + 1) (pc b ++ r) = (rdr q r).map (b :: ·) := fun q r hr => by
      rw [rdr, if_neg (by simp; omega), if_neg (pc_fold b r), fst_pc]
      simp
    simp only [body]
    split
    · rw [List.append_assoc, List.append_assoc, rdr, if_neg (by simp), if_pos ⟨_, rfl⟩]
      rw [show ([92, 10] ++ (pc b ++ (body width (pc b).length l ++ [36, 10])) : List UInt8).drop 2 = pc b ++ (body width (pc b).length l ++ [36, 10]) from rfl]
      rw [stp _ _ (by simp), rdr_lst width l _ k (by omega)]
      rfl
    · rw [List.append_assoc, stp _ _ (by simp), rdr_lst width l _ (k + 1) (by omega)]
      rfl
/-- A list tells one text. -/
theorem lst_inj {s t : List UInt8} {v w : Int} (h : lst s v = lst t w) : s = t := by
  have h1 := rdr_lst v s 0 (2 * s.length + 2 * t.length + 1) (by omega)
  have h2 := rdr_lst w t 0 (2 * s.length + 2 * t.length + 1) (by omega)
  unfold lst at h
  rw [h, h2] at h1
  exact (Option.some.inj h1).symm

end Go.Proofs.YthnadcmejaciaaaDoor
