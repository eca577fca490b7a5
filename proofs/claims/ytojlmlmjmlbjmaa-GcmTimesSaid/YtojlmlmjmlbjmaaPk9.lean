/-
  Texts of this claim in one file: CutP.
-/
import Derived.Test.YtojlmlmjmlbjmaaPk26
import Derived.Great.Walk
section
namespace Go.Proofs.Ytojlmlmjmlbjmaa
section
open Go Go.RowKit
set_option linter.unusedVariables false
set_option linter.unusedSimpArgs false
section
variable {P : Program} {ops : Array Oper} {Q : Exit → Act → World → Prop} {md : Region.Mode} {n : Nat}
end
end
section
open Go Go.RowKit
set_option linter.unusedVariables false
set_option linter.unusedSimpArgs false
section
variable {P : Program} {ops : Array Oper} {Q : Exit → Act → World → Prop} {md : Region.Mode} {n : Nat}
theorem exec_box {o : Oper} {ty : TypeId} {x : Operand} (ho : o.op = .box ty x) {e : Operand → Value} {cs : Array Value} (hx : e x = .agg cs) (w : World) :
    (execOp e o).run P w = .ok (.value (.pointer (some ⟨w.heap.size, 0, none⟩))) (w.alloc (.cells cs ty)) := by
  simp only [execOp, ho, Instr.box]
  simp [hx, Value.cells, newVar, newRow]
/-- A variable that begins with what came in. -/
theorem wpLA_box {o : Oper} {rest : List Oper} {a : Act} {w0 : World} {ty : TypeId} {x : Operand} (cs : Array Value) (hw : Region.wanted o (yielded ops a.tmps) = true) (ho : o.op = .box ty x) (hx : a.eval x = .agg cs)
    (h : ∀ p w', w0.heap.size ≤ p → w'.heap[p]? = some (.cells cs ty (0, 0)) → Below w0.heap.size w0 w' → wpLA P ops Q w' rest (a.put o.dst (.pointer (some ⟨p, 0, none⟩)))) : wpLA P ops Q w0 (o :: rest) a := .mk fun w hb =>
  BigFrame.wpList_want hw fun K' hK => by
    unfold Oper.wp
    rw [exec_box ho hx w]
    exact hK _ _ ((h w.heap.size (w.alloc (.cells cs ty)) hb.size (blkN rfl cs ty) (hb.alloc hb.size _)).out _ (Below.refl _ _))
end
section
variable {w w1 w2 : World} {L : List (Nat × Array Value × TypeId)} {M : List (Option Addr × Nat × List Value)}
end
end
end Go.Proofs.Ytojlmlmjmlbjmaa
end
