/-
  Texts of this claim in one file: CuE, CutP, CuO.
-/
import Derived.Test.YtpkmidaflnbobaaGreatDoorPk18
import Derived.Test.YtpkmidaflnbobaaGreatDoorPk13
import Derived.Test.YtpkmidaflnbobaaGreatDoorPk15
import Derived.Test.YtpkmidaflnbobaaGreatDoorPk43
import Derived.Great.Walk
import Derived.Test.YtpkmidaflnbobaaGreatDoorPk11
import Derived.Test.YtpkmidaflnbobaaGreatDoorPk10
import Derived.Test.YtpkmidaflnbobaaGreatDoorPk17
import Derived.Test.YtpkmidaflnbobaaGreatDoorPk39
import Derived.Shelf.Bytes.SlEqualAll
section
namespace Go.Proofs.YtpkmidaflnbobaaGreatDoor
open Go Go.RowKit
set_option linter.unusedVariables false
set_option linter.unusedSimpArgs false
def cP (x a : FF) : Array Value := eF x ++ eF a
theorem eF_size (a : FF) : (eF a).size = 4 := rfl
theorem cP_size (x a : FF) : (cP x a).size = 8 := by unfold cP; simp [eF_size]
end Go.Proofs.YtpkmidaflnbobaaGreatDoor
end
section
namespace Go.Proofs.YtpkmidaflnbobaaGreatDoor
section
open Go Go.RowKit
set_option linter.unusedVariables false
set_option linter.unusedSimpArgs false
section
variable {P : Program} {ops : Array Oper} {Q : Exit → Act → World → Prop} {md : Region.Mode} {n : Nat}
end
end
section
open Go Go.RowKit
set_option linter.unusedVariables false
set_option linter.unusedSimpArgs false
section
variable {P : Program} {ops : Array Oper} {Q : Exit → Act → World → Prop} {md : Region.Mode} {n : Nat}
theorem exec_box {o : Oper} {ty : TypeId} {x : Operand} (ho : o.op = .box ty x) {e : Operand → Value} {cs : Array Value} (hx : e x = .agg cs) (w : World) :
    (execOp e o).run P w = .ok (.value (.pointer (some ⟨w.heap.size, 0, none⟩))) (w.alloc (.cells cs ty)) := by
  simp only [execOp, ho, Instr.box]
  simp [hx, Value.cells, newVar, newRow]
/-- A variable that begins with what came in. -/
theorem wpLA_box {o : Oper} {rest : List Oper} {a : Act} {w0 : World} {ty : TypeId} {x : Operand} (cs : Array Value) (hw : Region.wanted o (yielded ops a.tmps) = true) (ho : o.op = .box ty x) (hx : a.eval x = .agg cs)
    (h : ∀ p w', w0.heap.size ≤ p → w'.heap[p]? = some (.cells cs ty (0, 0)) → Below w0.heap.size w0 w' → wpLA P ops Q w' rest (a.put o.dst (.pointer (some ⟨p, 0, none⟩)))) : wpLA P ops Q w0 (o :: rest) a := .mk fun w hb =>
  BigFrame.wpList_want hw fun K' hK => by
    unfold Oper.wp
    rw [exec_box ho hx w]
    exact hK _ _ ((h w.heap.size (w.alloc (.cells cs ty)) hb.size (blkN rfl cs ty) (hb.alloc hb.size _)).out _ (Below.refl _ _))
end
section
variable {w w1 w2 : World} {L : List (Nat × Array Value × TypeId)} {M : List (Option Addr × Nat × List Value)}
end
end
end Go.Proofs.YtpkmidaflnbobaaGreatDoor
end
section
namespace Go.Proofs.YtpkmidaflnbobaaGreatDoor
section
open Go Go.RowKit
set_option linter.unusedVariables false
set_option linter.unusedSimpArgs false
theorem St.cell {w w1 : World} {L : List (Nat × Array Value × TypeId)} (h : St w w1 L []) (i j : Nat) (u : Value) {p : Nat} {old : Array Value} {t : TypeId} (hi : L[i]? = some (p, old, t)) : St w (w1.setCell ⟨p, j, none⟩ u) (L.set i (p, old.setIfInBounds j u, t)) [] := by
  have hr := h.put0 i hi (X := old.setIfInBounds j u)
  have hm : (p, old, t) ∈ L := List.mem_of_getElem? hi
  have hc : w1.heap[p]? = some (.cells old t (0, 0)) := by
    clear hr
    have h2 := h.cl
    clear h
    induction L generalizing i with
    | nil => cases hm
    | cons q L ih =>
      rcases List.mem_cons.1 hm with rfl | hm
      · exact h2.1
      · cases i with
        | zero => simp only [List.getElem?_cons_zero, Option.some.injEq] at hi; subst hi; exact h2.1
        | succ i => exact ih i (by simpa using hi) hm h2.2
  rw [setCell_eq_setRow w1 p j old t (0, 0) u hc]
  exact hr
end
section
open Go Go.RowKit
set_option linter.unusedVariables false
set_option linter.unusedSimpArgs false
end
end Go.Proofs.YtpkmidaflnbobaaGreatDoor
end
