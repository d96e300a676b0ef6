/- Nodes and trees of patterns: of no program. -/
import Derived.Test.YtfkidgbjjlgjdaaDoorZSetQ
namespace Go.Proofs.YtfkidgbjjlgjdaaDoor
set_option linter.unusedVariables false
set_option linter.unusedSimpArgs false

/-- A node: its kind, the four words of its set, and its numbers. -/
structure Nd where
  kind : Int
  w0 : Nat
  w1 : Nat
  w2 : Nat
  w3 : Nat
  a : Int
  b : Int
  mn : Int
  mx : Int
  n : Int
  deriving DecidableEq

def isCnt (m M : Int) : Bool := if m < 0 ∨ 255 < m then false else decide (M = -1 ∨ (max m 1 ≤ M ∧ M ≤ 255))
def isNum (n : Int) : Bool := decide (1 ≤ n ∧ n ≤ 9)

/-- A node's fields are what its kind asks. -/
def isNd (x : Nd) : Bool :=
  if x.kind = 0 ∨ x.kind = 2 ∨ x.kind = 3 then decide (x = ⟨x.kind, 0, 0, 0, 0, 0, 0, 0, 0, 0⟩)
  else if x.kind = 1 then decide (¬ (x.w0 = 0 ∧ x.w1 = 0 ∧ x.w2 = 0 ∧ x.w3 = 0)) && decide (x = ⟨1, x.w0, x.w1, x.w2, x.w3, 0, 0, 0, 0, 0⟩)
  else if x.kind = 4 ∨ x.kind = 5 then decide (x = ⟨x.kind, 0, 0, 0, 0, x.a, x.b, 0, 0, 0⟩)
  else if x.kind = 6 then isCnt x.mn x.mx && decide (x = ⟨6, 0, 0, 0, 0, x.a, 0, x.mn, x.mx, 0⟩)
  else if x.kind = 7 then isNum x.n && decide (x = ⟨7, 0, 0, 0, 0, x.a, 0, 0, 0, x.n⟩)
  else if x.kind = 8 then isNum x.n && decide (x = ⟨8, 0, 0, 0, 0, 0, 0, 0, 0, x.n⟩)
  else false

/-- What a Go node's numbers keep to. -/
structure Nd.Fits (x : Nd) : Prop where
  k : -9223372036854775808 ≤ x.kind ∧ x.kind ≤ 9223372036854775807
  s0 : x.w0 < 18446744073709551616
  s1 : x.w1 < 18446744073709551616
  s2 : x.w2 < 18446744073709551616
  s3 : x.w3 < 18446744073709551616
  a : -9223372036854775808 ≤ x.a ∧ x.a ≤ 9223372036854775807
  b : -9223372036854775808 ≤ x.b ∧ x.b ≤ 9223372036854775807
  mn : -9223372036854775808 ≤ x.mn ∧ x.mn ≤ 9223372036854775807
  mx : -9223372036854775808 ≤ x.mx ∧ x.mx ≤ 9223372036854775807
  n : -9223372036854775808 ≤ x.n ∧ x.n ≤ 9223372036854775807

end Go.Proofs.YtfkidgbjjlgjdaaDoor
