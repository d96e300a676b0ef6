/- The document's own way to fit: what is told of a node, and of times. -/
import Derived.Test.YtjgegohidhdbpaaGreatDoorJMeH
import Derived.Test.YtjgegohidhdbpaaGreatDoorJMdQ
import Derived.Test.YtjgegohidhdbpaaGreatDoorJMbV
import Derived.Laws.DeepStrings4
import Derived.Deep.CutBlock
import Derived.Deep.DeepCutAuto
open Go.Proofs.Tryz
set_option linter.unusedVariables false
set_option linter.unusedSimpArgs false
set_option maxRecDepth 100000
set_option maxHeartbeats 40000000
namespace Go.Proofs.YtjgegohidhdbpaaGreatDoor
open Go.RowKit Go.Lib Go.Proofs.YtjgegohidhdbpaaGreatDoor.Fl
theorem JK {a : Nat} {f : Nat → Option Cp} : ∀ b, (∀ q, a ≤ q → q ≤ b → f q = none) → jy a f b = none
 | 0, h => by
  unfold jy
  by_cases h0 : a = 0
  ·rw [if_pos h0]; exact h 0 (by omega) (Nat.le_refl _)
  ·rw [if_neg h0]
 | b + 1, h => by
  unfold jy
  by_cases h0 : a ≤ b + 1
  ·rw [if_pos h0, h (b + 1) h0 (Nat.le_refl _)]
   exact JK b fun q h1 h2 => h q h1 (by omega)
  ·rw [if_neg h0]
theorem KH {a k : Nat} {f : Nat → Option Cp} {d : Cp} (hk : a ≤ k) (hd : f k = some d) : ∀ b, k ≤ b → (∀ q, k < q → q ≤ b → f q = none) → jy a f b = some d
 | 0, h1, h => by
  obtain rfl : k = 0 := by omega
  unfold jy
  rw [if_pos (by omega), hd]
 | b + 1, h1, h => by
  unfold jy
  rw [if_pos (by omega)]
  by_cases e : k = b + 1
  ·subst e; rw [hd]
  ·rw [h (b + 1) (by omega) (Nat.le_refl _)]
   exact KH hk hd b (by omega) fun q h1 h2 => h q h1 (by omega)
structure FZ where
 b : Nat
 o : Nat
 len : Nat
 cap : Nat
 xs : List Nd
 s : List UInt8
 gb : Nat
 gl : Nat
 gcap : Nat
 n : Nat
 RT : Nat → Nat
 RR : Nat → Nat → Nat
 G : Nat → Nat → Nat → Bool
structure FZ.Ok (Z : FZ) : Prop where
 xl : Z.xs.length = Z.len
 l : Z.len ≤ 120
 n1 : Z.n = Z.s.length + 1
 s90 : Z.s.length ≤ 90
structure Zm (Z : FZ) (w : World) : Prop where
 nodes : qn w Z.b Z.o Z.xs
 tabs : Z.gl = 0 ∨ Z.gl = Z.len ∧ yw w Z.gb Z.len Z.n Z.RT Z.RR Z.G
theorem Zm.below {Z : FZ} {w W : World} (h : Zm Z w) (hB : Below w.heap.size w W) : Zm Z W :=
 ⟨h.nodes.below hB h.nodes.lt, h.tabs.imp id fun q => ⟨q.1, q.2.below hB⟩⟩
def UX (o : Option Cp) (w : World) (e : Ending) (w' : World) : Prop := (∃ (d : Cp) (R : Bool), e = .returned (.tuple #[qk d, .bool R]) ∧ R = o.isSome ∧ ∀ x, o = some x → d = x) ∧ Below w.heap.size w w'
theorem zY {w w' : World} {d : Cp} (hB : Below w.heap.size w w') {o : Option Cp} (ho : o = none) : UX o w (.returned (.tuple #[qk d, .bool false])) w' := ⟨⟨d, false, rfl, by rw [ho]; rfl, fun x h => by rw [ho] at h; cases h⟩, hB⟩
theorem vF {w w' : World} {d : Cp} (hB : Below w.heap.size w w') {o : Option Cp} (ho : o = some d) : UX o w (.returned (.tuple #[qk d, .bool true])) w' := ⟨⟨d, true, rfl, by rw [ho]; rfl, fun x h => by rw [ho] at h; exact Option.some.inj h⟩, hB⟩
theorem ZZ {w w' : World} {d : Cp} (hB : Below w.heap.size w w') {o : Option Cp} {p : Prop} [Decidable p] (ho : o = if p then some d else none) {R : Bool} (hR : R = decide p) : UX o w (.returned (.tuple #[qk d, .bool R])) w' := by
 by_cases h : p
 ·rw [if_pos h] at ho
  rw [hR, decide_eq_true h]
  exact vF hB ho
 ·rw [if_neg h] at ho
  rw [hR, decide_eq_false h]
  exact zY hB ho
theorem Q4 {w w' : World} {d : Cp} {R : Bool} (hB : Below w.heap.size w w') {o : Option Cp} (hR : R = o.isSome) (hd : ∀ x, o = some x → d = x) : UX o w (.returned (.tuple #[qk d, .bool R])) w' := ⟨⟨d, R, rfl, hR, hd⟩, hB⟩
structure j8 (w W : World) (c : Cp) (x : Nd) : Prop where
 had : qm W w.heap.size 10 30 (fun g => qj (c g))
 nod : zG W (w.heap.size + 2) x.cells 73
 res : ∃ V, qm W (w.heap.size + 1) 10 30 V
 bel : Below w.heap.size w W
theorem qad {w : World} {b : Nat} {t : TypeId} {V : Nat → Value} (h : qm w b 10 t V) (Z : Cp) : ∃ V', qm (UV w b Z) b 10 t V' := ⟨_, ((((((((((h.set 0 _).set 1 _).set 2 _).set 3 _).set 4 _).set 5 _).set 6 _).set 7 _).set 8 _).set 9 _)⟩
theorem qm.keeps {S : Nat → Prop} {w w' : World} {b n : Nat} {t : TypeId} {V : Nat → Value} (h : qm w b n t V) (k : qb S w w') (hs : ¬ S b) : qm w' b n t V := ⟨(k.block b h.lt hs).trans h.heap⟩
section
variable {w W : World} {c : Cp} {x : Nd}
theorem j8.size (h : j8 w W c x) : w.heap.size + 2 < W.heap.size := h.nod.lt
theorem j8.put (h : j8 w W c x) (d : Cp) : j8 w (UV W (w.heap.size + 1) d) c x :=
 ⟨h.had.keeps (kn d) (by omega), h.nod.keeps (kn d) (by omega), by obtain ⟨V, hV⟩ := h.res; exact qad hV d, h.bel.trans ((kn d).below (by have := h.size; omega) (fun i e => by subst e; exact Nat.le_succ _))⟩
theorem j8.below {W' : World} (h : j8 w W c x) (hB : Below W.heap.size W W') : j8 w W' c x :=
 ⟨h.had.below hB h.had.lt, h.nod.below hB h.nod.lt, by obtain ⟨V, hV⟩ := h.res; exact ⟨V, hV.below hB hV.lt⟩, h.bel.trans (hB.mono h.bel.size)⟩
theorem j8.drew (h : j8 w W c x) : j8 w W.drew c x := h.below (Below.refl _ _).drew
end
theorem j8.new (w : World) (c : Cp) (x : Nd) : j8 w (((w.alloc (.cells (cH c) 30)).alloc (.cells cZ 30)).alloc (.cells x.cells 73)) c x := by
 have h1 := qm.new w 10 30 (fun g => qj (c g))
 have h2 := qm.new (w.alloc (.cells (cH c) 30)) 10 30 (fun _ => .complex .f64 0 0)
 have h3 := zG.new ((w.alloc (.cells (cH c) 30)).alloc (.cells cZ 30)) x.cells 73
 rw [World.size_alloc] at h2
 simp only [World.size_alloc] at h3
 have hB : ∀ (w : World) (o : Obj), Below w.heap.size w (w.alloc o) := fun w o => (Below.refl _ w).alloc (Nat.le_refl _) o
 have e1 := h1.below (hB _ (.cells cZ 30)) h1.lt
 exact ⟨e1.below (hB _ _) e1.lt, h3, ⟨_, h2.below (hB _ _) h2.lt⟩, (((Below.refl _ w).alloc (Nat.le_refl _) _).alloc (by simp) _).alloc (by simp; omega) _⟩
theorem j8.other {w W : World} {c : Cp} {x : Nd} (h : j8 w W c x) {b : Nat} (hb : w.heap.size + 3 ≤ b) (q : Nat) (v : Value) : j8 w (W.setCell ⟨b, q, none⟩ v) c x :=
 ⟨h.had.other (p := ⟨b, q, none⟩) (by show w.heap.size ≠ b; omega) v, h.nod.other (p := ⟨b, q, none⟩) (by show w.heap.size + 2 ≠ b; omega) v, by obtain ⟨V, hV⟩ := h.res; exact ⟨V, hV.other (p := ⟨b, q, none⟩) (by show w.heap.size + 1 ≠ b; omega) v⟩, h.bel.setCell (by show w.heap.size ≤ b; omega) v⟩
structure qba (Z : FZ) (p : Nat) (f : Nat → Nat → Cp → Option Cp) : Prop where
 cap : ∀ i j c d, qo Z.s.length c → i ≤ j → j ≤ Z.s.length → f i j c = some d → qo Z.s.length d
 tab : 0 < Z.gl → ∀ i j c, qo Z.s.length c → i ≤ j → j ≤ Z.s.length → Z.G p i j = (f i j c).isSome
 lt : p < Z.len
theorem Zm.free {Z : FZ} {a : Nat} {f : Nat → Nat → Cp → Option Cp} (h : qba Z a f) (hg : 0 < Z.gl) : qds Z.s.length f (Z.G a) := fun i j c hc kh hj => ⟨(h.tab hg i j c hc kh hj).symm, fun d => h.cap i j c d hc kh hj⟩
theorem Zm.tabR {Z : FZ} {w : World} (h : Zm Z w) (hg : 0 < Z.gl) : yw w Z.gb Z.len Z.n Z.RT Z.RR Z.G := (h.tabs.resolve_left (by omega)).2
theorem qk6 (s : List UInt8) (p q : Nat) (hp : p ≤ q) (hq : q ≤ s.length) (W : World) : (Instr.slice 9 (.string ⟨s.toArray⟩) (some (.int .i64 (p : Int))) (some (.int .i64 (q : Int))) none).run prog W = .ok (.string ⟨((s.drop p).take (q - p)).toArray⟩) W := by
 have hs : (⟨s.toArray⟩ : ByteArray).size = s.length := by simp [ByteArray.size]
 have e : (⟨s.toArray⟩ : ByteArray).extract (p : Int).toNat (q : Int).toNat = ⟨((s.drop p).take (q - p)).toArray⟩ := by
  apply ByteArray.ext
  apply Array.ext'
  simp [ByteArray.data_extract, List.drop_take]
 rw [run_slice_string_if (P := prog) W 9 _ .i64 .i64 (p : Int) (q : Int) underlying9, if_pos ⟨by omega, by rw [hs]; omega⟩, if_pos ⟨by omega, by omega⟩, e]
theorem qf2 (o : Option (Nat × Nat)) (Qt : ∀ a b, o = some (a, b) → a ≤ b ∧ b ≤ 999999999) (w : World) : Calls prog 70 #[qj o] w fun e w' => e = .returned (.bool o.isSome) ∧ w' = w := by
 cases o with
 | none =>
  refine (qbb qf qf w).mono ?_
  rintro e w' ⟨h1, h2⟩
  refine ⟨?_, h2.symm⟩
  rw [h1]
  have : sp qf qf = none := by unfold sp; rw [yR]; rfl
  rw [this]
  rfl
 | some p =>
  obtain ⟨a, b⟩ := p
  have h := Qt a b rfl
  have hv : ∀ a : Nat, a ≤ 999999999 → val (floatOfInt .f64 (a : Int)) = some (a : Int) := fun a h => zX (by have : (2 : Nat) ^ 53 = 9007199254740992 := rfl; omega)
  have hs := JM (hv a (by omega)) (hv b h.2) (by omega) (by omega) (by omega)
  refine (qbb _ _ w).mono ?_
  rintro e w' ⟨h1, h2⟩
  refine ⟨?_, h2.symm⟩
  rw [h1, hs]
  rfl
theorem qaa (s : List UInt8) (hs : s.length ≤ 300) (a b : Nat) (h1 : a ≤ b) (h2 : b ≤ s.length) (w : World) : Calls prog 39 #[.string ⟨s.toArray⟩, qj (some (a, b))] w fun e w' => e = .returned (.string ⟨(ZW s (some (a, b))).toArray⟩) ∧ w' = w := by
 have kR : (⟨s.toArray⟩ : ByteArray).size = s.length := by simp [ByteArray.size]
 have hv : ∀ a : Nat, a ≤ 999999999 → val (floatOfInt .f64 (a : Int)) = some (a : Int) := fun a h => zX (by have : (2 : Nat) ^ 53 = 9007199254740992 := rfl; omega)
 have hp := JM (hv a (by omega)) (hv b (by omega)) (by omega) (by omega) (by omega)
 refine (qdt ⟨s.toArray⟩ _ _ a b w (by rw [kR]; exact hs) hp).mono ?_
 rintro e w' ⟨e1, e2⟩
 refine ⟨?_, e2.symm⟩
 rw [e1]
 unfold Zn
 rw [kR, Nat.min_eq_left (by omega), Nat.min_eq_left h2, Z0]
 rfl
structure Xc (w W : World) (c : Cp) : Prop where
 had : qm W w.heap.size 10 30 (fun g => qj (c g))
 res : ∃ V, qm W (w.heap.size + 1) 10 30 V
 bel : Below w.heap.size w W
 size : W.heap.size = w.heap.size + 2
theorem Xc.new (w : World) (c : Cp) : Xc w ((w.alloc (.cells (cH c) 30)).alloc (.cells cZ 30)) c := by
 have h1 := qm.new w 10 30 (fun g => qj (c g))
 have h2 := qm.new (w.alloc (.cells (cH c) 30)) 10 30 (fun _ => .complex .f64 0 0)
 rw [World.size_alloc] at h2
 exact ⟨h1.below ((Below.refl _ _).alloc (Nat.le_refl _) _) h1.lt, ⟨_, h2⟩, ((Below.refl _ w).alloc (Nat.le_refl _) _).alloc (by simp) _, by simp⟩
theorem Xc.node {w W : World} {c : Cp} (h : Xc w W c) (x : Nd) : j8 w (W.alloc (.cells x.cells 73)) c x := by
 have h3 := zG.new W x.cells 73
 rw [h.size] at h3
 have hB : ∀ (w : World) (o : Obj), Below w.heap.size w (w.alloc o) := fun w o => (Below.refl _ w).alloc (Nat.le_refl _) o
 exact ⟨h.had.below (hB _ _) h.had.lt, h3, by obtain ⟨V, hV⟩ := h.res; exact ⟨V, hV.below (hB _ _) hV.lt⟩, h.bel.alloc h.bel.size _⟩
def qf3 (Z : FZ) (p : Nat) (f : Nat → Nat → Cp → Option Cp) : Prop := ∀ (i j : Nat) (c : Cp) (w : World), Zm Z w → qo Z.s.length c → i ≤ j → j ≤ Z.s.length →
 Calls prog 66 #[.slice (some ⟨Z.b, Z.o, none⟩) Z.len Z.cap, .slice (some ⟨Z.gb, 0, none⟩) Z.gl Z.gcap, .int .i64 p, .string ⟨Z.s.toArray⟩, .int .i64 i, .int .i64 j, qk c] w (UX (f i j c) w)
structure JG (Z : FZ) (p : Nat) (f : Nat → Nat → Cp → Option Cp) : Prop extends qba Z p f where
 call : qf3 Z p f
def qa8 (Z : FZ) (w : World) (mb ml j : Nat) (A : Nat → Nat → Cp → Option Cp) (m M : Int) : Prop := ml = 0 ∨ ml = j + 3 ∧ ∃ R F, yT w mb (j + 3) (j + 1) R F ∧ ∀ q k fu e, qo Z.s.length e → k ≤ j → q ≤ k + 2 → j ≤ fu + k → F q k = (j7 A m M fu k j q e).isSome
theorem qa8.below {Z : FZ} {w W : World} {mb ml j : Nat} {A : Nat → Nat → Cp → Option Cp} {m M : Int} (h : qa8 Z w mb ml j A m M) (hB : Below w.heap.size w W) : qa8 Z W mb ml j A m M :=
 h.imp id fun ⟨e, R, F, hg, hF⟩ => ⟨e, R, F, hg.below hB, hF⟩
def qfX (Z : FZ) (p : Nat) (A : Nat → Nat → Cp → Option Cp) (m M : Int) (fu : Nat) : Prop := ∀ (i j d : Nat) (c : Cp) (mb ml mc : Nat) (w : World), Zm Z w → qa8 Z w mb ml j A m M → qo Z.s.length c → i ≤ j → j ≤ Z.s.length → d ≤ i → j ≤ fu + i →
 Calls prog 109 #[.slice (some ⟨Z.b, Z.o, none⟩) Z.len Z.cap, .slice (some ⟨Z.gb, 0, none⟩) Z.gl Z.gcap, .slice (some ⟨mb, 0, none⟩) ml mc, .int .i64 p, .string ⟨Z.s.toArray⟩, .int .i64 i, .int .i64 j, .int .i64 d, qk c] w (UX (j7 A m M fu i j d c) w)
def qf1 (Z : FZ) (p : Nat) (x : Nd) (f : Nat → Nat → Cp → Option Cp) : Prop :=
 (x.kind = 0 ∧ ∀ i j c, f i j c = if i = j then some c else none) ∨
 (x.kind = 1 ∧ x.Fits ∧ ∀ i j c, f i j c = if j = i + 1 ∧ (match Z.s[i]? with | some c => x.set c.toNat | none => false) = true then some c else none) ∨
 (x.kind = 2 ∧ ∀ i j c, f i j c = if i = 0 ∧ j = 0 then some c else none) ∨
 (x.kind = 3 ∧ ∀ i j c, f i j c = if i = Z.s.length ∧ j = Z.s.length then some c else none) ∨
 (x.kind = 4 ∧ ∃ (a q : Nat) (fA fB : Nat → Nat → Cp → Option Cp), x.a = a ∧ x.b = q ∧ JG Z a fA ∧ JG Z q fB ∧ ∀ i j c, f i j c = jy i (fun k => (fA i k c).bind (fB k j)) j) ∨
 (x.kind = 5 ∧ ∃ (a q : Nat) (fA fB : Nat → Nat → Cp → Option Cp), x.a = a ∧ x.b = q ∧ JG Z a fA ∧ JG Z q fB ∧ ∀ i j c, f i j c = (match fA i j c with | some x => some x | none => fB i j c)) ∨
 (x.kind = 6 ∧ x.Fits ∧ ∃ (a : Nat) (fA : Nat → Nat → Cp → Option Cp), x.a = a ∧ JG Z a fA ∧ (∀ fu, qfX Z p fA x.mn x.mx fu) ∧ ∀ i j c, f i j c = j7 fA x.mn x.mx (j - i) i j 0 c) ∨
 (x.kind = 7 ∧ ∃ (a g : Nat) (fA : Nat → Nat → Cp → Option Cp), x.a = a ∧ x.n = g ∧ g ≤ 9 ∧ JG Z a fA ∧ ∀ i j c, f i j c = (fA i j c).map fun d q => if q = g then some (i, j) else d q) ∨
 (x.kind = 8 ∧ ∃ g : Nat, x.n = g ∧ g ≤ 9 ∧ ∀ i j c, qo Z.s.length c → i ≤ j → j ≤ Z.s.length → f i j c = if (c g).isSome = true ∧ ZW Z.s (c g) = (Z.s.drop i).take (j - i) then some c else none)
end Go.Proofs.YtjgegohidhdbpaaGreatDoor
