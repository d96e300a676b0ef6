/- The document's own part: whether a node fits, by the tables of those ahead of it. -/
import Derived.Test.YtjgegohidhdbpaaGreatDoorJMeB
import Derived.Test.YtjgegohidhdbpaaGreatDoorJSetJ
import Derived.Laws.DeepStrings4
open Go.Proofs.Tryz
set_option linter.unusedVariables false
set_option linter.unusedSimpArgs false
set_option maxRecDepth 100000
set_option maxHeartbeats 40000000
namespace Go.Proofs.YtjgegohidhdbpaaGreatDoor
open Go.RowKit
theorem WF (f : Nat → Bool) (a : Nat) (ha : a < 256) (w : World) : (Instr.index 149 (.agg (zP f)) (.int .u8 a)).run prog w = .ok (.bool (f a)) w := by
 have h1 : (0 : Int) ≤ (a : Int) ∧ (a : Int) < 256 := by omega
 simp [Instr.index, run_underlying underlying149, asIntOf, h1, go_sem, Go.part, Ji f a ha, kt]
 intro h; omega
structure yw (X : World) (gb m n : Nat) (RT : Nat → Nat) (RR : Nat → Nat → Nat) (G : Nat → Nat → Nat → Bool) : Prop where
 lt : gb < X.heap.size
 top : ∀ k, k < m → X.cell? ⟨gb, k, none⟩ = some (.slice (some ⟨RT k, 0, none⟩) n n)
 grid : ∀ k, k < m → yT X (RT k) n n (RR k) (G k)
theorem yw.below {X Y : World} {gb m n : Nat} {RT : Nat → Nat} {RR : Nat → Nat → Nat} {G : Nat → Nat → Nat → Bool} (h : yw X gb m n RT RR G) (hB : Below X.heap.size X Y) : yw Y gb m n RT RR G :=
 ⟨Nat.lt_of_lt_of_le h.lt hB.size, fun k hk => (hB.cell (p := ⟨gb, k, none⟩) h.lt).trans (h.top k hk), fun k hk => (h.grid k hk).below hB⟩
def Qh (s : List UInt8) (G : Nat → Nat → Nat → Bool) (x : Nd) (i j : Nat) : Bool :=
 if x.kind = 0 then decide (i = j)
 else if x.kind = 1 then decide (j = i + 1) && (match s[i]? with | some c => x.set c.toNat | none => false)
 else if x.kind = 2 then decide (j = 0)
 else if x.kind = 3 then decide (i = s.length)
 else if x.kind = 4 then zZ i j (fun k => G x.a.toNat i k && G x.b.toNat k j)
 else if x.kind = 5 then G x.a.toNat i j || G x.b.toNat i j
 else G x.a.toNat i j
theorem qiD (w0 w1 w2 w3 : Nat) (xa xb mm M xn : Int) (b o len cap : Nat) (xs : List Nd) (s : List UInt8) (gb m gcap n : Nat) (RT : Nat → Nat) (RR : Nat → Nat → Nat) (G : Nat → Nat → Nat → Bool) (p i j : Nat) (w : World) (hX : qn w b o xs) (qq : xs.length = len) (UY : len ≤ 1000) (hT : yw w gb m n RT RR G) (kh : i ≤ j) (hj : j ≤ s.length) (hn : n = s.length + 1) (hs : s.length ≤ 1000) (hp : p < len) (hx : xs[p]? = some ⟨0, w0, w1, w2, w3, xa, xb, mm, M, xn⟩) :
  Calls prog 107 #[.slice (some ⟨b, o, none⟩) len cap, .slice (some ⟨gb, 0, none⟩) m gcap, .int .i64 p, .string ⟨s.toArray⟩, .int .i64 i, .int .i64 j] w fun e w' => e = .returned (.bool (decide (i = j))) ∧ Below w.heap.size w w' := by
 have kR : (⟨s.toArray⟩ : ByteArray).size = s.length := by simp [ByteArray.size]
 have d := hX.cell p _ hx
 have d_ := zB d
 have hpi : (p : Int) < (len : Int) := by omega
 have ZC := zG.new w (Nd.cells ⟨0, w0, w1, w2, w3, xa, xb, mm, M, xn⟩) 73
 have qr : Below w.heap.size w (w.alloc (.cells (Nd.cells ⟨0, w0, w1, w2, w3, xa, xb, mm, M, xn⟩) 73)) := (Below.refl _ w).alloc (Nat.le_refl _) _
 have e_ := j9 ZC
 unfold Nd.cells at e_
 have vm := ξ qr
 have HBX := ξ ZC
 have Kr := ξ (hT.below qr)
 have HT := ξ hT
 clear hX hT d ZC qr hx
 unfold Nd.cells at vm HBX Kr
 go_enter func107, ntmps107
 by_cases q : i = j
 ·have q1 : (i : Int) = (j : Int) := by omega
  have q2 : ((i : Int) == (j : Int)) = true := by rw [beq_iff_eq]; exact q1
  rw [decide_eq_true q]
  clear q q1
  go_wp2
  go_ret
  exact ⟨rfl, vm.out⟩
 ·have q2 : ((i : Int) == (j : Int)) = false := by rw [beq_eq_false_iff_ne]; omega
  rw [decide_eq_false q]
  clear q
  go_wp2
  go_ret
  exact ⟨rfl, vm.out⟩
theorem qiF (w0 w1 w2 w3 : Nat) (xa xb mm M xn : Int) (b o len cap : Nat) (xs : List Nd) (s : List UInt8) (gb m gcap n : Nat) (RT : Nat → Nat) (RR : Nat → Nat → Nat) (G : Nat → Nat → Nat → Bool) (p i j : Nat) (w : World) (hX : qn w b o xs) (qq : xs.length = len) (UY : len ≤ 1000) (hT : yw w gb m n RT RR G) (kh : i ≤ j) (hj : j ≤ s.length) (hn : n = s.length + 1) (hs : s.length ≤ 1000) (hp : p < len) (hx : xs[p]? = some ⟨2, w0, w1, w2, w3, xa, xb, mm, M, xn⟩) :
  Calls prog 107 #[.slice (some ⟨b, o, none⟩) len cap, .slice (some ⟨gb, 0, none⟩) m gcap, .int .i64 p, .string ⟨s.toArray⟩, .int .i64 i, .int .i64 j] w fun e w' => e = .returned (.bool (decide (j = 0))) ∧ Below w.heap.size w w' := by
 have kR : (⟨s.toArray⟩ : ByteArray).size = s.length := by simp [ByteArray.size]
 have d := hX.cell p _ hx
 have d_ := zB d
 have hpi : (p : Int) < (len : Int) := by omega
 have ZC := zG.new w (Nd.cells ⟨2, w0, w1, w2, w3, xa, xb, mm, M, xn⟩) 73
 have qr : Below w.heap.size w (w.alloc (.cells (Nd.cells ⟨2, w0, w1, w2, w3, xa, xb, mm, M, xn⟩) 73)) := (Below.refl _ w).alloc (Nat.le_refl _) _
 have e_ := j9 ZC
 unfold Nd.cells at e_
 have vm := ξ qr
 have HBX := ξ ZC
 have Kr := ξ (hT.below qr)
 have HT := ξ hT
 clear hX hT d ZC qr hx
 unfold Nd.cells at vm HBX Kr
 go_enter func107, ntmps107
 by_cases q : j = 0
 ·have q1 : (j : Int) = 0 := by omega
  have q2 : ((j : Int) == 0) = true := by rw [beq_iff_eq]; exact q1
  rw [decide_eq_true q]
  clear q q1
  go_wp2
  go_ret
  exact ⟨rfl, vm.out⟩
 ·have q2 : ((j : Int) == 0) = false := by rw [beq_eq_false_iff_ne]; omega
  rw [decide_eq_false q]
  clear q
  go_wp2
  go_ret
  exact ⟨rfl, vm.out⟩
theorem qiG (w0 w1 w2 w3 : Nat) (xa xb mm M xn : Int) (b o len cap : Nat) (xs : List Nd) (s : List UInt8) (gb m gcap n : Nat) (RT : Nat → Nat) (RR : Nat → Nat → Nat) (G : Nat → Nat → Nat → Bool) (p i j : Nat) (w : World) (hX : qn w b o xs) (qq : xs.length = len) (UY : len ≤ 1000) (hT : yw w gb m n RT RR G) (kh : i ≤ j) (hj : j ≤ s.length) (hn : n = s.length + 1) (hs : s.length ≤ 1000) (hp : p < len) (hx : xs[p]? = some ⟨3, w0, w1, w2, w3, xa, xb, mm, M, xn⟩) :
  Calls prog 107 #[.slice (some ⟨b, o, none⟩) len cap, .slice (some ⟨gb, 0, none⟩) m gcap, .int .i64 p, .string ⟨s.toArray⟩, .int .i64 i, .int .i64 j] w fun e w' => e = .returned (.bool (decide (i = s.length))) ∧ Below w.heap.size w w' := by
 have kR : (⟨s.toArray⟩ : ByteArray).size = s.length := by simp [ByteArray.size]
 have d := hX.cell p _ hx
 have d_ := zB d
 have hpi : (p : Int) < (len : Int) := by omega
 have ZC := zG.new w (Nd.cells ⟨3, w0, w1, w2, w3, xa, xb, mm, M, xn⟩) 73
 have qr : Below w.heap.size w (w.alloc (.cells (Nd.cells ⟨3, w0, w1, w2, w3, xa, xb, mm, M, xn⟩) 73)) := (Below.refl _ w).alloc (Nat.le_refl _) _
 have e_ := j9 ZC
 unfold Nd.cells at e_
 have vm := ξ qr
 have HBX := ξ ZC
 have Kr := ξ (hT.below qr)
 have HT := ξ hT
 clear hX hT d ZC qr hx
 unfold Nd.cells at vm HBX Kr
 go_enter func107, ntmps107
 by_cases q : i = s.length
 ·have q1 : (i : Int) = (s.length : Int) := by omega
  have q2 : ((i : Int) == (s.length : Int)) = true := by rw [beq_iff_eq]; exact q1
  rw [decide_eq_true q]
  clear q q1
  go_wp2
  go_ret
  exact ⟨rfl, vm.out⟩
 ·have q2 : ((i : Int) == (s.length : Int)) = false := by rw [beq_eq_false_iff_ne]; omega
  rw [decide_eq_false q]
  clear q
  go_wp2
  go_ret
  exact ⟨rfl, vm.out⟩
theorem qiJ (w0 w1 w2 w3 : Nat) (a : Nat) (xb mm M xn : Int) (b o len cap : Nat) (xs : List Nd) (s : List UInt8) (gb m gcap n : Nat) (RT : Nat → Nat) (RR : Nat → Nat → Nat) (G : Nat → Nat → Nat → Bool) (p i j : Nat) (w : World) (hX : qn w b o xs) (qq : xs.length = len) (UY : len ≤ 1000) (hT : yw w gb m n RT RR G) (kh : i ≤ j) (hj : j ≤ s.length) (hn : n = s.length + 1) (hs : s.length ≤ 1000) (hp : p < len) (hx : xs[p]? = some ⟨7, w0, w1, w2, w3, (a : Int), xb, mm, M, xn⟩) (ha : a < m) (hm : m ≤ 1000) :
  Calls prog 107 #[.slice (some ⟨b, o, none⟩) len cap, .slice (some ⟨gb, 0, none⟩) m gcap, .int .i64 p, .string ⟨s.toArray⟩, .int .i64 i, .int .i64 j] w fun e w' => e = .returned (.bool (G a i j)) ∧ Below w.heap.size w w' := by
 have kR : (⟨s.toArray⟩ : ByteArray).size = s.length := by simp [ByteArray.size]
 have d := hX.cell p _ hx
 have d_ := zB d
 have hpi : (p : Int) < (len : Int) := by omega
 have ZC := zG.new w (Nd.cells ⟨7, w0, w1, w2, w3, (a : Int), xb, mm, M, xn⟩) 73
 have qr : Below w.heap.size w (w.alloc (.cells (Nd.cells ⟨7, w0, w1, w2, w3, (a : Int), xb, mm, M, xn⟩) 73)) := (Below.refl _ w).alloc (Nat.le_refl _) _
 have e_ := j9 ZC
 unfold Nd.cells at e_
 have vm := ξ qr
 have HBX := ξ ZC
 have Kr := ξ (hT.below qr)
 have HT := ξ hT
 clear hX hT d ZC qr hx
 unfold Nd.cells at vm HBX Kr
 have kat := HT.out.top a ha; have kaT := Kr.out.top a ha
 have kar := (HT.out.grid a ha).top.cell i (by omega); have kaR := (Kr.out.grid a ha).top.cell i (by omega)
 have kac := ((HT.out.grid a ha).row i (by omega)).cell j (by omega); have kaC := ((Kr.out.grid a ha).row i (by omega)).cell j (by omega)
 go_enter func107, ntmps107
 have l1 : (a : Int) < (m : Int) := by omega
 have l2 : (i : Int) < (n : Int) := by omega
 have l3 : (j : Int) < (n : Int) := by omega
 have l4 : i < n := by omega
 have l5 : j < n := by omega
 obtain ⟨v, hv⟩ : ∃ v, v = G a i j := ⟨_, rfl⟩
 simp only [bR] at kac kaC
 rw [← hv] at kac kaC ⊢
 clear hv
 unfold zF at kar kaR
 go_wp2
 go_ret
 exact ⟨rfl, vm.out⟩
theorem qiI (w0 w1 w2 w3 : Nat) (a c : Nat) (mm M xn : Int) (b o len cap : Nat) (xs : List Nd) (s : List UInt8) (gb m gcap n : Nat) (RT : Nat → Nat) (RR : Nat → Nat → Nat) (G : Nat → Nat → Nat → Bool) (p i j : Nat) (w : World) (hX : qn w b o xs) (qq : xs.length = len) (UY : len ≤ 1000) (hT : yw w gb m n RT RR G) (kh : i ≤ j) (hj : j ≤ s.length) (hn : n = s.length + 1) (hs : s.length ≤ 1000) (hp : p < len) (hx : xs[p]? = some ⟨5, w0, w1, w2, w3, (a : Int), (c : Int), mm, M, xn⟩) (ha : a < m) (hc : c < m) (hm : m ≤ 1000) :
  Calls prog 107 #[.slice (some ⟨b, o, none⟩) len cap, .slice (some ⟨gb, 0, none⟩) m gcap, .int .i64 p, .string ⟨s.toArray⟩, .int .i64 i, .int .i64 j] w fun e w' => e = .returned (.bool (G a i j || G c i j)) ∧ Below w.heap.size w w' := by
 have kR : (⟨s.toArray⟩ : ByteArray).size = s.length := by simp [ByteArray.size]
 have d := hX.cell p _ hx
 have d_ := zB d
 have hpi : (p : Int) < (len : Int) := by omega
 have ZC := zG.new w (Nd.cells ⟨5, w0, w1, w2, w3, (a : Int), (c : Int), mm, M, xn⟩) 73
 have qr : Below w.heap.size w (w.alloc (.cells (Nd.cells ⟨5, w0, w1, w2, w3, (a : Int), (c : Int), mm, M, xn⟩) 73)) := (Below.refl _ w).alloc (Nat.le_refl _) _
 have e_ := j9 ZC
 unfold Nd.cells at e_
 have vm := ξ qr
 have HBX := ξ ZC
 have Kr := ξ (hT.below qr)
 have HT := ξ hT
 clear hX hT d ZC qr hx
 unfold Nd.cells at vm HBX Kr
 have kat := HT.out.top a ha; have kaT := Kr.out.top a ha
 have kar := (HT.out.grid a ha).top.cell i (by omega); have kaR := (Kr.out.grid a ha).top.cell i (by omega)
 have kac := ((HT.out.grid a ha).row i (by omega)).cell j (by omega); have kaC := ((Kr.out.grid a ha).row i (by omega)).cell j (by omega)
 have kct := HT.out.top c hc; have kcT := Kr.out.top c hc
 have kcr := (HT.out.grid c hc).top.cell i (by omega); have kcR := (Kr.out.grid c hc).top.cell i (by omega)
 have kcc := ((HT.out.grid c hc).row i (by omega)).cell j (by omega); have kcC := ((Kr.out.grid c hc).row i (by omega)).cell j (by omega)
 go_enter func107, ntmps107
 have l1 : (a : Int) < (m : Int) := by omega
 have l1' : (c : Int) < (m : Int) := by omega
 have l2 : (i : Int) < (n : Int) := by omega
 have l3 : (j : Int) < (n : Int) := by omega
 have l4 : i < n := by omega
 have l5 : j < n := by omega
 simp only [bR] at kac kaC kcc kcC
 unfold zF at kar kaR kcr kcR
 cases hv : G a i j with
 | true =>
  rw [hv] at kac kaC
  clear hv
  go_wp2
  go_ret
  exact ⟨by simp, vm.out⟩
 | false =>
  rw [hv] at kac kaC
  obtain ⟨v, UD⟩ : ∃ v, v = G c i j := ⟨_, rfl⟩
  rw [← UD] at kcc kcC ⊢
  clear hv UD
  go_wp2
  go_ret
  exact ⟨by simp, vm.out⟩
theorem qiH (w0 w1 w2 w3 : Nat) (a c : Nat) (mm M xn : Int) (b o len cap : Nat) (xs : List Nd) (s : List UInt8) (gb m gcap n : Nat) (RT : Nat → Nat) (RR : Nat → Nat → Nat) (G : Nat → Nat → Nat → Bool) (p i j : Nat) (w : World) (hX : qn w b o xs) (qq : xs.length = len) (UY : len ≤ 1000) (hT : yw w gb m n RT RR G) (kh : i ≤ j) (hj : j ≤ s.length) (hn : n = s.length + 1) (hs : s.length ≤ 1000) (hp : p < len) (hx : xs[p]? = some ⟨4, w0, w1, w2, w3, (a : Int), (c : Int), mm, M, xn⟩) (ha : a < m) (hc : c < m) (hm : m ≤ 1000) :
  Calls prog 107 #[.slice (some ⟨b, o, none⟩) len cap, .slice (some ⟨gb, 0, none⟩) m gcap, .int .i64 p, .string ⟨s.toArray⟩, .int .i64 i, .int .i64 j] w fun e w' => e = .returned (.bool (zZ i j (fun k => G a i k && G c k j))) ∧ Below w.heap.size w w' := by
 obtain ⟨R, hR⟩ : ∃ R, R = zZ i j (fun k => G a i k && G c k j) := ⟨_, rfl⟩
 rw [← hR]
 have HRR := ξ hR
 clear hR
 have kR : (⟨s.toArray⟩ : ByteArray).size = s.length := by simp [ByteArray.size]
 have d := hX.cell p _ hx
 have d_ := zB d
 have hpi : (p : Int) < (len : Int) := by omega
 have ZC := zG.new w (Nd.cells ⟨4, w0, w1, w2, w3, (a : Int), (c : Int), mm, M, xn⟩) 73
 have qr : Below w.heap.size w (w.alloc (.cells (Nd.cells ⟨4, w0, w1, w2, w3, (a : Int), (c : Int), mm, M, xn⟩) 73)) := (Below.refl _ w).alloc (Nat.le_refl _) _
 have e_ := j9 ZC
 unfold Nd.cells at e_
 have vm := ξ qr
 have HBX := ξ ZC
 have Kr := ξ (hT.below qr)
 have HT := ξ hT
 clear hX hT d ZC qr hx
 unfold Nd.cells at vm HBX Kr
 go_enter func107, ntmps107
 have l1 : (a : Int) < (m : Int) := by omega
 have l1' : (c : Int) < (m : Int) := by omega
 have l2 : (i : Int) < (n : Int) := by omega
 have l3 : (j : Int) < (n : Int) := by omega
 have l4 : i < n := by omega
 have l5 : j < n := by omega
 go_wp2
 go_loopw [12, 14] (fun rv kv wr => ∃ k : Nat, i ≤ k ∧ k ≤ j + 1 ∧ kv = .int .i64 (k : Int) ∧ (∀ q, i ≤ q → q < k → (G a i q && G c q j) = false) ∧ rv = .bool false ∧ wr = w.alloc (.cells #[.int .i64 4, .int .u64 w0, .int .u64 w1, .int .u64 w2, .int .u64 w3, .int .i64 a, .int .i64 c, .int .i64 mm, .int .i64 M, .int .i64 xn] 73)) (fun _ kv _ => j + 1 - (RowKit.intOf kv).toNat)
 case atStart => exact ⟨i, Nat.le_refl _, by omega, rfl, fun q h1 h2 => by omega, rfl, rfl⟩
 case round =>
  obtain ⟨k, hik, Jl, rfl, kz, rfl, rfl⟩ := hrel
  by_cases zb : k ≤ j
  ·have hli : (k : Int) ≤ (j : Int) := by omega
   have l6 : (k : Int) < (n : Int) := by omega
   have l7 : k < n := by omega
   have kat := HT.out.top a ha; have kaT := Kr.out.top a ha
   have kar := (HT.out.grid a ha).top.cell i (by omega); have kaR := (Kr.out.grid a ha).top.cell i (by omega)
   have kac := ((HT.out.grid a ha).row i (by omega)).cell k (by omega); have kaC := ((Kr.out.grid a ha).row i (by omega)).cell k (by omega)
   have kct := HT.out.top c hc; have kcT := Kr.out.top c hc
   have kcr := (HT.out.grid c hc).top.cell k (by omega); have kcR := (Kr.out.grid c hc).top.cell k (by omega)
   have kcc := ((HT.out.grid c hc).row k (by omega)).cell j (by omega); have kcC := ((Kr.out.grid c hc).row k (by omega)).cell j (by omega)
   simp only [bR] at kac kaC kcc kcC
   unfold zF at kar kaR kcr kcR
   cases hv : G a i k with
   | false =>
    rw [hv] at kac kaC
    have kD := ξ kz
    have HV := ξ hv
    clear kz hv
    go_wp2
    go_roundw
    case rel => exact ⟨k + 1, by omega, by omega, by go_num, fun q h1 h2 => by
     by_cases e : q = k
     ·subst e; rw [HV.out]; rfl
     ·exact kD.out q h1 (by omega), rfl, by first | rfl | trivial⟩
    case measure => (simp [RowKit.intOf]) <;> omega
   | true =>
    rw [hv] at kac kaC
    cases UD : G c k j with
    | false =>
     rw [UD] at kcc kcC
     have kD := ξ kz
     have HV := ξ UD
     clear kz hv UD
     go_wp2
     go_roundw
     case rel => exact ⟨k + 1, by omega, by omega, by go_num, fun q h1 h2 => by
      by_cases e : q = k
      ·subst e; rw [HV.out, Bool.and_false]
      ·exact kD.out q h1 (by omega), rfl, by first | rfl | trivial⟩
     case measure => (simp [RowKit.intOf]) <;> omega
    | true =>
     rw [UD] at kcc kcC
     have hRt : R = true := by rw [HRR.out, qF]; exact ⟨k, hik, zb, by rw [hv, UD]; rfl⟩
     subst hRt
     clear kz hv UD
     go_wp2
     go_ret
     exact ⟨rfl, vm.out⟩
  ·have hli : ¬ (k : Int) ≤ (j : Int) := by omega
   have hRf : R = false := by
    rw [HRR.out, Bool.eq_false_iff]
    intro h
    obtain ⟨q, h1, h2, h3⟩ := qF.1 h
    rw [kz q h1 (by omega)] at h3
    cases h3
   subst hRf
   clear kz
   go_wp2
   go_ret
   exact ⟨rfl, vm.out⟩
theorem qiE (w0 w1 w2 w3 : Nat) (xa xb mm M xn : Int) (hf : w0 < 18446744073709551616 ∧ w1 < 18446744073709551616 ∧ w2 < 18446744073709551616 ∧ w3 < 18446744073709551616) (b o len cap : Nat) (xs : List Nd) (s : List UInt8) (gb m gcap n : Nat) (RT : Nat → Nat) (RR : Nat → Nat → Nat) (G : Nat → Nat → Nat → Bool) (p i j : Nat) (w : World) (hX : qn w b o xs) (qq : xs.length = len) (UY : len ≤ 1000) (hT : yw w gb m n RT RR G) (kh : i ≤ j) (hj : j ≤ s.length) (hn : n = s.length + 1) (hs : s.length ≤ 1000) (hp : p < len) (hx : xs[p]? = some ⟨1, w0, w1, w2, w3, xa, xb, mm, M, xn⟩) :
  Calls prog 107 #[.slice (some ⟨b, o, none⟩) len cap, .slice (some ⟨gb, 0, none⟩) m gcap, .int .i64 p, .string ⟨s.toArray⟩, .int .i64 i, .int .i64 j] w fun e w' => e = .returned (.bool (decide (j = i + 1) && (match s[i]? with | some c => qS w0 w1 w2 w3 c.toNat | none => false))) ∧ Below w.heap.size w w' := by
 obtain ⟨g0, g1, g2, g3⟩ := jK hf.1 hf.2.1 hf.2.2.1 hf.2.2.2
 have HTO : Hid (∀ W, Calls prog 108 #[.agg #[.int .u64 w0, .int .u64 w1, .int .u64 w2, .int .u64 w3]] W fun e w' => e = .returned (bv (qS w0 w1 w2 w3)) ∧ Below W.heap.size W w') := ξ (fun W => by
  have := G9 (qS w0 w1 w2 w3) W
  unfold sv at this
  rw [g0, g1, g2, g3] at this
  exact this)
 clear g0 g1 g2 g3 hf
 have kR : (⟨s.toArray⟩ : ByteArray).size = s.length := by simp [ByteArray.size]
 have d := hX.cell p _ hx
 have d_ := zB d
 have hpi : (p : Int) < (len : Int) := by omega
 have ZC := zG.new w (Nd.cells ⟨1, w0, w1, w2, w3, xa, xb, mm, M, xn⟩) 73
 have qr : Below w.heap.size w (w.alloc (.cells (Nd.cells ⟨1, w0, w1, w2, w3, xa, xb, mm, M, xn⟩) 73)) := (Below.refl _ w).alloc (Nat.le_refl _) _
 have e_ := j9 ZC
 unfold Nd.cells at e_
 have vm := ξ qr
 have HBX := ξ ZC
 have Kr := ξ (hT.below qr)
 have HT := ξ hT
 clear hX hT d ZC qr hx
 unfold Nd.cells at vm HBX Kr
 go_enter func107, ntmps107
 by_cases q : j = i + 1
 ·obtain ⟨c, hc⟩ : ∃ c, s[i]? = some c := ⟨s[i]'(by omega), List.getElem?_eq_getElem _⟩
  have hsc : (⟨s.toArray⟩ : ByteArray)[i]'(by rw [kR]; omega) = c := by
   obtain ⟨h1, h2⟩ := List.getElem?_eq_some_iff.1 hc
   exact h2
  obtain ⟨V, hV⟩ : ∃ V, V = qS w0 w1 w2 w3 c.toNat := ⟨_, rfl⟩
  have HIX : Hid (∀ W, (Instr.index 149 (bv (qS w0 w1 w2 w3)) (.int .u8 (c.toNat : Int))).run prog W = .ok (.bool V) W) := ξ (fun W => by rw [hV]; exact WF _ _ c.toNat_lt W)
  rw [hc, decide_eq_true q, Bool.true_and]
  simp only
  rw [← hV]
  have jw : IntKind.i64.wrap ((i : Int) + 1) = (i : Int) + 1 := by simp [IntKind.wrap, IntKind.signed, IntKind.bits]; omega
  have j1 : ((i : Int) + 1 == (i : Int) + 1) = true := by simp
  have hil : i < s.length := by omega
  have hili : (i : Int) < (s.length : Int) := by omega
  clear hc hV
  obtain ⟨BV, hBV⟩ : ∃ BV, BV = bv (qS w0 w1 w2 w3) := ⟨_, rfl⟩
  rw [← hBV] at HTO HIX
  clear hBV
  go_wp2_with fail
  refine wp_region_noPanic ?_
  refine wp_region_held_drew (S := fun w' => w'.heap[w.heap.size]? = some (.cells #[.int .i64 1, .int .u64 w0, .int .u64 w1, .int .u64 w2, .int .u64 w3, .int .i64 xa, .int .i64 xb, .int .i64 mm, .int .i64 M, .int .i64 xn] 73 (0, 0)) ∧ Below w.heap.size w w') (by kernel_rfl) ?_ (fun qe => ?_)
  ·(try dsimp only); exact ⟨HBX.out.heap, vm.out.drew⟩
  refine tq 0 ?_ (hy := by (intro wq qi; obtain ⟨sB, sL⟩ := qi; go_simp); (try rfl))
  refine tq 1 ?_ (hy := by (intro wq qi; obtain ⟨sB, sL⟩ := qi; go_simp); (try rfl))
  refine tq 2 ?_ (hy := by (intro wq qi; obtain ⟨sB, sL⟩ := qi; go_simp); (try rfl))
  refine tq 3 ?_ (hy := by (intro wq qi; obtain ⟨sB, sL⟩ := qi; go_simp); (try rfl))
  refine tq 4 ?_ (hy := by (intro wq qi; obtain ⟨sB, sL⟩ := qi; go_simp); (try rfl))
  refine tq 5 ?_ (hy := by (intro wq qi; obtain ⟨sB, sL⟩ := qi; go_simp); (try rfl))
  refine tq 6 ?_ (hy := by (intro wq qi; obtain ⟨sB, sL⟩ := qi; have b1 : wq.cell? ⟨w.heap.size, 1, none⟩ = some (.int .u64 w0) := (by rw [cell_of _ _ _ _ sB]; rfl); have b2 : wq.cell? ⟨w.heap.size, 2, none⟩ = some (.int .u64 w1) := (by rw [cell_of _ _ _ _ sB]; rfl); have b3 : wq.cell? ⟨w.heap.size, 3, none⟩ = some (.int .u64 w2) := (by rw [cell_of _ _ _ _ sB]; rfl); have b4 : wq.cell? ⟨w.heap.size, 4, none⟩ = some (.int .u64 w3) := (by rw [cell_of _ _ _ _ sB]; rfl); go_simp); (try rfl))
  refine tq 8 ?_ (hy := by (intro wq qi; obtain ⟨sB, sL⟩ := qi; go_simp); (try rfl))
  refine tq 9 ?_ (hy := by (intro wq qi; obtain ⟨sB, sL⟩ := qi; go_simp); (try rfl))
  refine wpAnyH_ready (rs := [7, 10]) (by kernel_rfl) (by simp) ?_
  refine AllReadyH.cons rfl (fun K hK => ?_) (AllReadyH.cons rfl (fun K hK => ?_) AllReadyH.nil)
  ·go_simp
   have Zo := qe
   obtain ⟨sB, sL⟩ := Zo
   refine (HTO.out _).mono ?_
   rintro e w5 ⟨rfl, ki⟩
   have sl5 := sL.size
   have JO := (ki.block w.heap.size (Array.getElem?_eq_some_iff.1 sB).1).trans sB
   have hy5 := sL.trans (ki.mono sL.size)
   refine hK.out _ _ ?_ (fun qe => ?_)
   ·(try dsimp only); exact ⟨JO, hy5⟩
   clear hK K sB sL sl5 JO hy5 ki
   (try simp only [Act.put, zm])
   refine zU 10 fun K hK => ?_
   go_simp
   refine hK.out _ _ ?_ (fun qe => ?_)
   ·(try dsimp only); exact qe
   clear hK K
   (try simp only [Act.put, zm])
   refine tq 11 ?_ (hy := by (intro wq qi; obtain ⟨sB, sL⟩ := qi; have hix := HIX.out; go_simp); (try rfl))
   refine tq 12 ?_ (hy := by (intro wq qi; obtain ⟨sB, sL⟩ := qi; go_simp); (try rfl))
   refine tq 13 ?_ (hy := by (intro wq qi; obtain ⟨sB, sL⟩ := qi; go_simp); (try rfl))
   refine wpAnyH_done (by kernel_rfl) ?_ _
   refine NoPanic.normal ?_
   go_wp2
   go_ret
   exact ⟨rfl, qe.2⟩
  ·go_simp
   refine hK.out _ _ ?_ (fun qe => ?_)
   ·(try dsimp only); exact qe
   clear hK K
   (try simp only [Act.put, zm])
   refine zU 7 fun K hK => ?_
   go_simp
   have Zo := qe
   obtain ⟨sB, sL⟩ := Zo
   refine (HTO.out _).mono ?_
   rintro e w5 ⟨rfl, ki⟩
   have sl5 := sL.size
   have JO := (ki.block w.heap.size (Array.getElem?_eq_some_iff.1 sB).1).trans sB
   have hy5 := sL.trans (ki.mono sL.size)
   refine hK.out _ _ ?_ (fun qe => ?_)
   ·(try dsimp only); exact ⟨JO, hy5⟩
   clear hK K sB sL sl5 JO hy5 ki
   (try simp only [Act.put, zm])
   refine tq 11 ?_ (hy := by (intro wq qi; obtain ⟨sB, sL⟩ := qi; have hix := HIX.out; go_simp); (try rfl))
   refine tq 12 ?_ (hy := by (intro wq qi; obtain ⟨sB, sL⟩ := qi; go_simp); (try rfl))
   refine tq 13 ?_ (hy := by (intro wq qi; obtain ⟨sB, sL⟩ := qi; go_simp); (try rfl))
   refine wpAnyH_done (by kernel_rfl) ?_ _
   refine NoPanic.normal ?_
   go_wp2
   go_ret
   exact ⟨rfl, qe.2⟩
 ·have q2 : ((j : Int) == (i : Int) + 1) = false := by rw [beq_eq_false_iff_ne]; omega
  rw [decide_eq_false q, Bool.false_and]
  clear q
  go_wp2_with fail
  go_quiet (fail)
  go_wp2
  go_ret
  exact ⟨rfl, Go.below_drewN vm.out _⟩
end Go.Proofs.YtjgegohidhdbpaaGreatDoor
