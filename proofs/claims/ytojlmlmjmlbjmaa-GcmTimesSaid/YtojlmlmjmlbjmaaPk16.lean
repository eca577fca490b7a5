/-
  Texts of this claim in one file: SymB.
-/
import Derived.Test.YtojlmlmjmlbjmaaPk26
import Derived.Test.YtojlmlmjmlbjmaaPk23
import Derived.Test.YtojlmlmjmlbjmaaPk4
import Derived.Test.YtojlmlmjmlbjmaaPk24
import Derived.Great.Walk
section
namespace Go.Proofs.Ytojlmlmjmlbjmaa
open Go Go.RowKit
set_option linter.unusedVariables false
set_option linter.unusedSimpArgs false
section
variable {P : Program} {ops : Array Oper} {Q : Exit → Act → World → Prop} {md : Region.Mode}
variable {n : Nat}
theorem wpGrA_bytes {g f : Nat} {l : List Oper} {i : Nat} {oi : Oper} {listed : Array Bool} {a : Act} {w0 : World} {fn : FuncId} {args : Array Value} (xs : List UInt8) (hi : ops[i]? = some oi) (hrd : (Region.ready md ops listed == [i] && decide (i < n)) = true)
    (hw : Region.wanted oi (yielded ops a.tmps) = true) (hr : ∀ w', (execOp a.eval oi).run P w' = .ok (.enter fn args) w')
    (hc : ∀ w', Below w0.heap.size w0 w' → Calls P fn args w' (fun e w'' => ∃ v, e = .returned v ∧ OwnB w'' w'.heap.size v xs ∧ Below w'.heap.size w' w''))
    (h : ∀ A c w2, Below w0.heap.size w0 w2 → Sq w2 w2.heap.size A c (bvs xs) → wpGrA P md ops Q n (GrL P md ops Q g n l) w2 f (listed.setIfInBounds i true) (a.put oi.dst (.slice A xs.length c))) : wpGrA P md ops Q n (GrL P md ops Q g n l) w0 (f + 1) listed a :=
  wpGrA_call (fun w' v w'' => OwnB w'' w'.heap.size v xs) hi hrd hw hr (fun w' hb => (hc w' hb).mono fun e w'' ⟨v, he, ho, hb2⟩ => ⟨_, he, hb2, ho⟩)
    fun w' v w'' hb hb2 ho => by
      obtain ⟨A, c, rfl, hs⟩ := own_sl ho
      exact h A c w'' (hb.trans (hb2.mono hb.size)) hs.sq
end
end Go.Proofs.Ytojlmlmjmlbjmaa
end
