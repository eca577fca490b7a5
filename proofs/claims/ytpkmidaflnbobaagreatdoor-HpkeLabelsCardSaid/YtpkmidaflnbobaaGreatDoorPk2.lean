/-
  Texts of this claim in one file: Loops.
-/
import Derived.Test.YtpkmidaflnbobaaGreatDoorPk37
section
namespace Go.Proofs.YtpkmidaflnbobaaGreatDoor
open Go.RowKit
set_option linter.unusedVariables false
/-- The loops of a text, the outer ones first. -/
def loopsOf : Code → List Code
  | .loop c => c :: loopsOf c
  | .seq a b => loopsOf a ++ loopsOf b
  | .block _ c => loopsOf c
  | .scope c => loopsOf c
  | .cond _ a b => loopsOf a ++ loopsOf b
  | _ => []
/-- The body of a function's loop i. -/
noncomputable def loopN (f : Func) (i : Nat) : Code := ((f.body.map loopsOf).getD []).getD i .skip
theorem lie_setCell_ne {w : World} {B : Nat} {A : Option Addr} {cs : List Value} (h : Lie w B A cs) {g i : Nat} {sp : Option Nat} (hne : cs ≠ [] → ∀ b o sp', A = some ⟨b, o, sp'⟩ → b ≠ g) (u : Value) : Lie (w.setCell ⟨g, i, sp⟩ u) B A cs := fun hn => by
  obtain ⟨b, o, hA, hb, hc⟩ := h hn
  exact ⟨b, o, hA, hb, fun j x hx => (World.cell?_setCell_other w ⟨g, i, sp⟩ ⟨b, o + j, none⟩ u (fun e => hne hn b o none hA (by rw [Addr.mk.injEq] at e; exact e.1.symm))).trans (hc j x hx)⟩
end Go.Proofs.YtpkmidaflnbobaaGreatDoor
end
