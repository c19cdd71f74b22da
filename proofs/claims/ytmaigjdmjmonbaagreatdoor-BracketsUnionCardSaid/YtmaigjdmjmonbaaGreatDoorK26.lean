/- Texts merged by program: PsGoto. No condition. -/
import Derived.ScopeJumps
import Derived.WalkMore
import Derived.WalkKit
set_option linter.unusedVariables false
/- A scope in which the run may jump ahead to one label. -/
namespace Go.Proofs.YtmaigjdmjmonbaaGreatDoor
open Go Go.RowKit

theorem jump_ret {l : Nat} {J : Act → World → Prop} {Q : Exit → Act → World → Prop} {a : Act} {w : World} : Exit.jump l J Q .ret a w = Q .ret a w := rfl
theorem jump_normal {l : Nat} {J : Act → World → Prop} {Q : Exit → Act → World → Prop} {a : Act} {w : World} : Exit.jump l J Q .normal a w = Q .normal a w := rfl
theorem jump_exit {l k : Nat} {J : Act → World → Prop} {Q : Exit → Act → World → Prop} {a : Act} {w : World} : Exit.jump l J Q (.exit k) a w = Q (.exit k) a w := rfl
theorem jump_goto {l k : Nat} {J : Act → World → Prop} {Q : Exit → Act → World → Prop} {a : Act} {w : World} : Exit.jump l J Q (.goto k) a w = (k = l ∧ J a w) := rfl
theorem wp_scope_fwd {P : Program} {c rest : Code} {Q : Exit → Act → World → Prop} {a : Act} {w : World} (l : Nat) (hf : findLabel c l = some rest)
    (h : c.wp P (Exit.jump l (fun a w => rest.wp P (Exit.noGoto Q) a w) Q) a w) : (Code.scope c).wp P Q a w :=
  wp_scope_jumps l _ (fun _ _ => 0) hf h fun a w hJ => wp_mono hJ fun e a w h => by
    cases e with
    | goto k => exact h.elim
    | normal => exact h
    | exit k => exact h
    | ret => exact h
    | panic ch => exact h
    | outgrown => exact h
end Go.Proofs.YtmaigjdmjmonbaaGreatDoor
