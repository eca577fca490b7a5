/-
  Texts of this claim in one file: Goto.
-/
import Derived.WalkKit
import Derived.ScopeJumps
section
namespace Go.Proofs.Ythooibljnfnnhaa
open Go.RowKit
set_option linter.unusedVariables false
/-- A scope with one label that is jumped to, whatever stands ahead of it. -/
theorem wp_scope_at {P : Program} {a : Act} {w : World} {Q : Exit → Act → World → Prop} {body r : Code} (l : Nat) (J : Act → World → Prop) (μ : Act → World → Nat) (hf : findLabel body l = some (Code.skip.seq r))
    (h0 : ∀ Qj : Exit → Act → World → Prop, (∀ a' w' , Q .ret a' w' → Qj .ret a' w') → (∀ a w, J a w → r.wp P Qj a w) → body.wp P Qj a w)
    (pass : ∀ a w, J a w → r.wp P (Exit.jump l (fun a' w' => J a' w' ∧ μ a' w' < μ a w) Q) a w) : (Code.scope body).wp P Q a w :=
  wp_scope_jumps l J μ hf (h0 _ (fun _ _ h => h) (fun a w h => Code.wp_mono (fun e a' w' h => by
    cases e with
    | goto l' => exact ⟨h.1, h.2.1⟩
    | normal => exact h
    | exit id => exact h
    | ret => exact h
    | panic ch => exact h
    | outgrown => exact h) (pass a w h))) (fun a w h => wp_seq (wp_skip (pass a w h)))
end Go.Proofs.Ythooibljnfnnhaa
end
