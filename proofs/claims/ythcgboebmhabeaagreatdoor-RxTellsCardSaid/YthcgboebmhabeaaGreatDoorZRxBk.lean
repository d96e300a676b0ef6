/- RxBack: the walk. -/
import Derived.Test.YthcgboebmhabeaaGreatDoorZRxTs
import Derived.Test.YthcgboebmhabeaaGreatDoorZRxSm
namespace Go.Proofs.YthcgboebmhabeaaGreatDoor
open Go.RowKit
set_option linter.unusedVariables false
set_option linter.unusedSimpArgs false

theorem text_pos : ∀ t : T, text t ≠ []
  | .leaf x => by
    show leafText x ≠ []
    unfold leafText
    repeat' split
    all_goals simp
  | .two k a b => by simp [text]
  | .times m M t => by simp [text]
  | .group n t => by simp [text]
theorem nodes_of_at {w : World} {b o n : Nat} {xs : List Nd} (hlen : xs.length = n) (hn : n ≤ 1000) (hfit : ∀ (i : Nat) (x : Nd), xs[i]? = some x → x.Fits) (hx : NodesAt w b o xs) : Nodes w (some ⟨b, o, none⟩) n xs :=
  ⟨hlen, by omega, fun _ => ⟨b, o, rfl⟩, fun _ b' o' e => by
    simp only [Option.some.injEq, Addr.mk.injEq] at e
    obtain ⟨rfl, rfl, _⟩ := e
    exact hx, hfit⟩

end Go.Proofs.YthcgboebmhabeaaGreatDoor
