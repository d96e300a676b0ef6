/- A scope in which the run jumps forward, once, to one label: what stands behind the label is walked from there. -/
import Derived.ScopeJumps
import Derived.Tactics
namespace Go.Proofs.YthbldjiibgnfmaaGreatDoor

theorem wp_scope_fwd {P : Program} {a : Act} {w : World} {Q : Exit → Act → World → Prop} {c rest : Code} (l : Nat) (hf : findLabel c l = some rest)
    (first : c.wp P (Exit.jump l (fun a w => rest.wp P (Exit.noGoto Q) a w) Q) a w) : (Code.scope c).wp P Q a w := by
  refine wp_scope_jumps l (fun a w => rest.wp P (Exit.noGoto Q) a w) (fun _ _ => 0) hf first ?_
  intro a w h
  refine Code.wp_mono ?_ h
  intro e a w hq
  cases e <;> first | exact hq | exact False.elim hq

theorem jump_ret {l : Nat} {J : Act → World → Prop} {Q : Exit → Act → World → Prop} {a : Act} {w : World} : Exit.jump l J Q .ret a w = Q .ret a w := rfl

end Go.Proofs.YthbldjiibgnfmaaGreatDoor
