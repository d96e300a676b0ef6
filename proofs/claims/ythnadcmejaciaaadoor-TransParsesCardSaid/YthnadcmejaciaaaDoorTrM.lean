/- putter; what it puts; List. -/
import Derived.Test.YthnadcmejaciaaaDoorTrL
import Derived.Laws.EntriesVeiled
namespace Go.Proofs.YthnadcmejaciaaaDoor
open Go.RowKit
set_option linter.unusedVariables false
set_option linter.unusedSimpArgs false

theorem BuilderAtF.kept {T e : TypeId} {B b c : Nat} {p : Value} {bs : List Value} {w w' : World} (h : Lib.BuilderAtF T e B b p bs w) (hk : ∀ k, k ≠ c → w'.heap[k]? = w.heap[k]?)
    (hc : ∃ cs T' fz, w.heap[c]? = some (.cells cs T' fz) ∧ T' ≠ e) (hb : b ≠ c) : Lib.BuilderAtF T e B b p bs w' := by
  obtain ⟨h1, v, h2, h3, h4⟩ := h
  obtain ⟨cs, T', fz', hc1, hc2⟩ := hc
  refine ⟨h1, v, (hk b hb).trans h2, ⟨h3.1, ?_⟩, h4⟩
  rcases h3.2 with h | ⟨g, cap, cur, fz, e1, e2, e3, r⟩
  · exact .inl h
  · refine .inr ⟨g, cap, cur, fz, e1, e2, (hk g (fun e => ?_)).trans e3, r⟩
    subst e
    rw [hc1] at e3
    simp at e3
    exact hc2 e3.2.1
theorem SB.setCell {B b c : Nat} {bs : List Value} {w : World} (h : SB B b bs w) {cs : Array Value} {T' : TypeId} (hc : w.heap[c]? = some (.cells cs T' (0, 0))) (hT : T' ≠ 5) (hb : b ≠ c) (j : Nat) (v : Value) : SB B b bs (w.setCell ⟨c, j, none⟩ v) :=
  h.imp (fun x => BuilderAtF.kept x (fun k hk => Below.heap_setCell w ⟨c, j, none⟩ v k hk) ⟨_, _, _, hc, hT⟩ hb) (fun x => BuilderAtF.kept x (fun k hk => Below.heap_setCell w ⟨c, j, none⟩ v k hk) ⟨_, _, _, hc, hT⟩ hb)

/-- A variable of one cell. -/
structure One (T : TypeId) (W : World) (b : Nat) (v : Value) : Prop where
  heap : W.heap[b]? = some (.cells #[v] T (0, 0))
section
variable {T : TypeId} {W : World} {b : Nat} {v : Value}
theorem One.lt (h : One T W b v) : b < W.heap.size := (Array.getElem?_eq_some_iff.1 h.heap).1
theorem One.cell (h : One T W b v) : W.cell? ⟨b, 0, none⟩ = some v := by simp [World.cell?, h.heap]
theorem One.fz (h : One T W b v) : W.frozen? ⟨b, 0, none⟩ = false := by simp [World.frozen?, h.heap]
theorem One.below {B : Nat} {W' : World} (h : One T W b v) (hB : Below B W W') (hb : b < B) : One T W' b v := ⟨(hB.block b hb).trans h.heap⟩
theorem One.beside {W' : World} (h : One T W b v) (hB : Below W.heap.size W W') : One T W' b v := h.below hB h.lt
theorem One.alloc (h : One T W b v) (o : Obj) : One T (W.alloc o) b v := h.below (B := W.heap.size) ((Below.refl _ W).alloc (Nat.le_refl _) o) h.lt
theorem One.set (h : One T W b v) (u : Value) : One T (W.setCell ⟨b, 0, none⟩ u) b u := ⟨by rw [heap_setCell_same _ b 0 _ _ _ h.heap]; rfl⟩
theorem One.other (h : One T W b v) {p : Addr} (hp : b ≠ p.block) (u : Value) : One T (W.setCell p u) b v := ⟨(Below.heap_setCell W p u b hp).trans h.heap⟩
theorem One.new (T : TypeId) (W : World) (v : Value) : One T (W.alloc (.cells #[v] T)) W.heap.size v := ⟨by show (W.heap.push _)[W.heap.size]? = _; simp⟩
theorem SK.one {B b k : Nat} {w w' : World} (h : SK B b w w') (hg : One T w k v) (hk : k ≠ b) (hT : T ≠ 5) : One T w' k v :=
  ⟨h.2 k _ hg.heap (by simpa using hk) (fun c fz e => by simp at e; exact hT e.2.1)⟩
end

/-- The closure's variables: the builder lies at b, its rows at B and above; n, n + 1, n + 2 hold the pointer to it, the width, the line's length. -/
structure PE (B b n : Nat) (width : Int) (line : Nat) (out : List UInt8) (w : World) : Prop where
  p : One 50 w n (.pointer (some ⟨b, 0, none⟩))
  wd : One 3 w (n + 1) (.int .i64 width)
  ln : One 3 w (n + 2) (.int .i64 line)
  sb : SB B b (Lib.byteCells out) w
  lt : b < n
theorem PE.beside {B b n : Nat} {width : Int} {line : Nat} {out : List UInt8} {w w' : World} (h : PE B b n width line out w) (hB : Below w.heap.size w w') : PE B b n width line out w' :=
  ⟨h.p.beside hB, h.wd.beside hB, h.ln.beside hB, h.sb.below hB, h.lt⟩
def Kp (b n : Nat) (w w' : World) : Prop := ∀ (T : TypeId) (k : Nat) (g : Nat → Value), k ≠ b → k ≠ n + 2 → T ≠ 5 → GR T w k g → GR T w' k g

set_option maxRecDepth 100000 in
set_option maxHeartbeats 8000000 in
theorem putter_c (b : Nat) (width : Int) (w : World) :
    Calls Tryd.prog 32 #[.pointer (some ⟨b, 0, none⟩), .int .i64 width] w fun e w' => e = .returned (.func (.func 40) #[] #[.pointer (some ⟨w.heap.size + 1, 0, none⟩), .pointer (some ⟨w.heap.size + 2, 0, none⟩), .pointer (some ⟨w.heap.size, 0, none⟩)]) ∧
      w' = ((w.alloc (.cells #[.pointer (some ⟨b, 0, none⟩)] 50)).alloc (.cells #[.int .i64 width] 3)).alloc (.cells #[.int .i64 0] 3) := by
  go_enter Tryd.func32, Tryd.ntmps32
  go_wp2
  go_ret
  exact ⟨rfl, rfl⟩

theorem out_app (a b : List UInt8) : Lib.byteCells a ++ Lib.strCells ⟨b.toArray⟩ = Lib.byteCells (a ++ b) := by rw [cells_app]; rfl

set_option maxRecDepth 100000 in
set_option maxHeartbeats 8000000 in
theorem put_c (B b n : Nat) (width : Int) (line : Nat) (out : List UInt8) (p : List UInt8) (hp : p.length ≤ 100) (hline : line ≤ 1000000) (hout : out.length ≤ 100000000) (hw2 : width ≤ 9223372036854775807) (w : World) (h : PE B b n width line out w) :
    Calls Tryd.prog 40 #[.string ⟨p.toArray⟩, .pointer (some ⟨n + 1, 0, none⟩), .pointer (some ⟨n + 2, 0, none⟩), .pointer (some ⟨n, 0, none⟩)] w fun e w' => e = .returned (.tuple #[]) ∧
      PE B b n width ((if brk width line p.length then 0 else line) + p.length) (out ++ (if brk width line p.length then [92, 10] ++ p else p)) w' ∧ Kp b n w w' ∧ Below B w w' := by
  have hBn : B ≤ b := h.sb.le
  have hlt := h.lt
  obtain ⟨P, hP⟩ : ∃ P : ByteArray, P = ⟨p.toArray⟩ := ⟨_, rfl⟩
  have hPs : P.size = p.length := by rw [hP, ba_size]
  rw [← hP]
  have HP := Lib.hid hP
  have HPS := Lib.hid hPs
  have cW := h.wd.cell
  have cL := h.ln.cell
  have cP := h.p.cell
  have lB : B ≤ w.heap.size := by have := h.sb.lt; omega
  have hocl := cells_len out
  have HH := Lib.hid h
  by_cases hb : brk width line p.length = true
  · have hb' := brk_iff.1 hb
    have t1 : (2 : Int) ≤ width := hb'.1
    have t2 : (0 : Int) < (line : Int) := by omega
    have t3 : width - 1 < (line : Int) + (P.size : Int) := by omega
    have hsum : (line : Int) + (P.size : Int) ≤ 2000000 := by omega
    have HW1 := Lib.hid (wstr_c B b (Lib.byteCells out) ⟨#[92, 10]⟩ w h.sb (by rw [hocl, show (⟨#[92, 10]⟩ : ByteArray).size = 2 from rfl]; omega) lB)
    rw [if_pos hb, if_pos hb]
    clear hb hb' hP hocl hPs h
    go_enter Tryd.func40, Tryd.ntmps40
    go_wp2_with fail
    refine HW1.out.mono ?_
    rintro e w1 ⟨rfl, hsb1, hk1⟩
    have p1 := hk1.one HH.out.p (by omega) (by decide)
    have p2 := hk1.one HH.out.wd (by omega) (by decide)
    have p3 := hk1.one HH.out.ln (by omega) (by decide)
    have d1 := p1.cell; have d2 := p2.cell; have d3 := p3.cell; have z3 := p3.fz
    rw [show Lib.byteCells out ++ Lib.strCells ⟨#[92, 10]⟩ = Lib.byteCells (out ++ [92, 10]) from out_app out [92, 10]] at hsb1
    have q3 := p3.set (.int .i64 0)
    have q2 := p2.other (p := ⟨n + 2, 0, none⟩) (by simp) (.int .i64 0)
    have q1 := p1.other (p := ⟨n + 2, 0, none⟩) (by simp) (.int .i64 0)
    have qs := hsb1.setCell p3.heap (by decide) (by omega) 0 (.int .i64 0)
    have lB1 : B ≤ w1.heap.size := by have := hk1.1.size; omega
    have HW2 := Lib.hid (wstr_c B b _ P (w1.setCell ⟨n + 2, 0, none⟩ (.int .i64 0)) qs (by rw [cells_len]; simp; have := HPS.out; omega) (by simpa using lB1))
    have e1 := q1.cell
    clear hsb1 qs
    go_wp2_with fail
    refine HW2.out.mono ?_
    rintro e w2 ⟨rfl, hsb2, hk2⟩
    have r1 := hk2.one q1 (by omega) (by decide)
    have r2 := hk2.one q2 (by omega) (by decide)
    have r3 := hk2.one q3 (by omega) (by decide)
    have f3 := r3.cell
    have zf3 := r3.fz
    have HF := Lib.hid (show PE B b n width (0 + p.length) (out ++ ([92, 10] ++ p)) (w2.setCell ⟨n + 2, 0, none⟩ (.int .i64 (P.size : Int))) by
      refine ⟨r1.other (by simp) _, r2.other (by simp) _, ?_, ?_, HH.out.lt⟩
      · have := r3.set (.int .i64 (P.size : Int))
        rw [HPS.out] at this ⊢
        simpa using this
      · have hs := hsb2.setCell r3.heap (by decide) (by omega) 0 (.int .i64 (P.size : Int))
        rw [HP.out, out_app] at hs
        rw [HP.out]
        simpa using hs)
    have HK : Hid (Kp b n w (w2.setCell ⟨n + 2, 0, none⟩ (.int .i64 (P.size : Int)))) := Lib.hid (fun T k g h1 h2 h3 hg => by
      have g1 := hk1.gr hg h1 h3
      have g2 := g1.other (p := ⟨n + 2, 0, none⟩) h2 (.int .i64 0)
      have g3 := hk2.gr g2 h1 h3
      exact g3.other (p := ⟨n + 2, 0, none⟩) h2 _)
    have HB : Hid (Below B w (w2.setCell ⟨n + 2, 0, none⟩ (.int .i64 (P.size : Int)))) := Lib.hid (((hk1.1.setCell (p := ⟨n + 2, 0, none⟩) (by simp; omega) _).trans hk2.1).setCell (p := ⟨n + 2, 0, none⟩) (by simp; omega) _)
    clear hsb2 hk1 hk2 p1 p2 p3 q1 q2 q3 r1 r2 r3 HH
    go_wp2
    go_end0
    exact ⟨rfl, HF.out, HK.out, HB.out⟩
  · have hb2 : ¬ (2 ≤ width ∧ 0 < line ∧ width - 1 < (line : Int) + p.length) := fun h => hb (brk_iff.2 h)
    have HW1 := Lib.hid (wstr_c B b (Lib.byteCells out) P w h.sb (by rw [hocl]; omega) lB)
    rw [if_neg hb, if_neg hb]
    have hsum : (line : Int) + (P.size : Int) ≤ 2000000 := by omega
    have hfin : ∀ w1, SB B b (Lib.byteCells out ++ Lib.strCells P) w1 → SK B b w w1 → One 3 w1 (n + 2) (.int .i64 line) ∧
        (PE B b n width (line + p.length) (out ++ p) (w1.setCell ⟨n + 2, 0, none⟩ (.int .i64 ((line : Int) + (P.size : Int)))) ∧ Kp b n w (w1.setCell ⟨n + 2, 0, none⟩ (.int .i64 ((line : Int) + (P.size : Int)))) ∧ Below B w (w1.setCell ⟨n + 2, 0, none⟩ (.int .i64 ((line : Int) + (P.size : Int))))) := by
      intro w1 hsb1 hk1
      have p1 := hk1.one HH.out.p (by omega) (by decide)
      have p2 := hk1.one HH.out.wd (by omega) (by decide)
      have p3 := hk1.one HH.out.ln (by omega) (by decide)
      refine ⟨p3, ⟨p1.other (by simp) _, p2.other (by simp) _, ?_, ?_, HH.out.lt⟩, fun T k g h1 h2 h3 hg => (hk1.gr hg h1 h3).other (p := ⟨n + 2, 0, none⟩) h2 _, hk1.1.setCell (p := ⟨n + 2, 0, none⟩) (by simp; omega) _⟩
      · have := p3.set (.int .i64 ((line : Int) + (P.size : Int)))
        rw [HPS.out] at this ⊢
        simpa using this
      · have hs := hsb1.setCell p3.heap (by decide) (by omega) 0 (.int .i64 ((line : Int) + (P.size : Int)))
        rw [HP.out, out_app] at hs
        rw [HP.out]
        exact hs
    have HFIN := Lib.hid hfin
    by_cases h1 : 2 ≤ width
    · by_cases h2 : 0 < line
      · have t3 : ¬ (width - 1 < (line : Int) + (P.size : Int)) := by rw [hPs]; exact fun h => hb2 ⟨h1, h2, h⟩
        have t2 : (0 : Int) < (line : Int) := by omega
        clear hb hb2 hP hocl hPs h hfin h2 HH
        go_enter Tryd.func40, Tryd.ntmps40
        go_wp2_with fail
        refine HW1.out.mono ?_
        rintro e w1 ⟨rfl, hsb1, hk1⟩
        obtain ⟨p3, hF⟩ := HFIN.out w1 hsb1 hk1
        have d3 := p3.cell; have z3 := p3.fz
        have HF := Lib.hid hF
        clear hsb1 hk1 p3 hF
        go_wp2
        go_end0
        exact ⟨rfl, HF.out⟩
      · obtain rfl : line = 0 := by omega
        clear hb hb2 hP hocl hPs h hfin h2 HH
        go_enter Tryd.func40, Tryd.ntmps40
        go_wp2_with fail
        refine HW1.out.mono ?_
        rintro e w1 ⟨rfl, hsb1, hk1⟩
        obtain ⟨p3, hF⟩ := HFIN.out w1 hsb1 hk1
        have d3 := p3.cell; have z3 := p3.fz
        have HF := Lib.hid hF
        clear hsb1 hk1 p3 hF
        go_wp2
        go_end0
        exact ⟨rfl, by simpa using HF.out⟩
    · have t1 : ¬ (2 : Int) ≤ width := h1
      clear hb hb2 hP hocl hPs h hfin h1 HH
      go_enter Tryd.func40, Tryd.ntmps40
      go_wp2_with fail
      refine HW1.out.mono ?_
      rintro e w1 ⟨rfl, hsb1, hk1⟩
      obtain ⟨p3, hF⟩ := HFIN.out w1 hsb1 hk1
      have d3 := p3.cell; have z3 := p3.fz
      have HF := Lib.hid hF
      clear hsb1 hk1 p3 hF
      go_wp2
      go_end0
      exact ⟨rfl, HF.out⟩

end Go.Proofs.YthnadcmejaciaaaDoor
