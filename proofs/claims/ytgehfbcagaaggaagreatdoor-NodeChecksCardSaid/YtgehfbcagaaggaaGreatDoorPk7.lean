/-
  Texts of this claim in one file: SymB.
-/
import Derived.Test.YtgehfbcagaaggaaGreatDoorPk34
import Derived.Test.YtgehfbcagaaggaaGreatDoorPk0
import Derived.Great.Walk
section
namespace Go.Proofs.YtgehfbcagaaggaaGreatDoor
open Go Go.RowKit
set_option linter.unusedVariables false
set_option linter.unusedSimpArgs false
section
variable {P : Program} {ops : Array Oper} {Q : Exit → Act → World → Prop} {md : Region.Mode}
theorem wpLA_bytes {o : Oper} {rest : List Oper} {a : Act} {w0 : World} {f : FuncId} {args : Array Value} (xs : List UInt8) (hw : Region.wanted o (yielded ops a.tmps) = true) (hr : ∀ w', (execOp a.eval o).run P w' = .ok (.enter f args) w')
    (hc : ∀ w', Below w0.heap.size w0 w' → Calls P f args w' (fun e w'' => ∃ v, e = .returned v ∧ OwnB w'' w'.heap.size v xs ∧ Below w'.heap.size w' w''))
    (h : ∀ A c w2, Below w0.heap.size w0 w2 → Sq w2 w2.heap.size A c (bvs xs) → wpLA P ops Q w2 rest (a.put o.dst (.slice A xs.length c))) : wpLA P ops Q w0 (o :: rest) a :=
  wpLA_call (fun w' v w'' => OwnB w'' w'.heap.size v xs ∧ Below w'.heap.size w' w'') hw hr (fun w' hb => (hc w' hb).mono fun e w'' ⟨v, he, ho, hb2⟩ => ⟨_, he, ho, hb2⟩)
    fun w' v w'' hb ⟨ho, hb2⟩ => by
      obtain ⟨A, c, rfl, hs⟩ := own_sl ho
      exact h A c w'' (hb.trans (hb2.mono hb.size)) hs.sq
variable {n : Nat}
theorem wpGrA_bytes {g f : Nat} {l : List Oper} {i : Nat} {oi : Oper} {listed : Array Bool} {a : Act} {w0 : World} {fn : FuncId} {args : Array Value} (xs : List UInt8) (hi : ops[i]? = some oi) (hrd : (Region.ready md ops listed == [i] && decide (i < n)) = true)
    (hw : Region.wanted oi (yielded ops a.tmps) = true) (hr : ∀ w', (execOp a.eval oi).run P w' = .ok (.enter fn args) w')
    (hc : ∀ w', Below w0.heap.size w0 w' → Calls P fn args w' (fun e w'' => ∃ v, e = .returned v ∧ OwnB w'' w'.heap.size v xs ∧ Below w'.heap.size w' w''))
    (h : ∀ A c w2, Below w0.heap.size w0 w2 → Sq w2 w2.heap.size A c (bvs xs) → wpGrA P md ops Q n (GrL P md ops Q g n l) w2 f (listed.setIfInBounds i true) (a.put oi.dst (.slice A xs.length c))) : wpGrA P md ops Q n (GrL P md ops Q g n l) w0 (f + 1) listed a :=
  wpGrA_call (fun w' v w'' => OwnB w'' w'.heap.size v xs) hi hrd hw hr (fun w' hb => (hc w' hb).mono fun e w'' ⟨v, he, ho, hb2⟩ => ⟨_, he, hb2, ho⟩)
    fun w' v w'' hb hb2 ho => by
      obtain ⟨A, c, rfl, hs⟩ := own_sl ho
      exact h A c w'' (hb.trans (hb2.mono hb.size)) hs.sq
end
/-- A slice that is made of what is said. -/
theorem wpLA_slice {P : Program} {ops : Array Oper} {Q : Exit → Act → World → Prop} {o : Oper} {rest : List Oper} {a : Act} {w0 : World} (hg : o.guard = none) (t e : TypeId) (len : Nat) (parts : Array (Nat × Operand)) (ho : o.op = .buildSlice t len parts) (hu : P.underlying t = some (.slice e))
    (l : List (Nat × Value)) (hl : (parts.toList.map fun (i, x) => (i, a.eval x)) = l) (xs : List Value) (hf : P.builtSlice e len l = some xs.toArray) (hn : xs.length ≤ len) (hm : len ≤ 9223372036854775807)
    (h : ∀ p w2, Below w0.heap.size w0 w2 → Sq w2 w2.heap.size (some ⟨p, 0, none⟩) len xs → wpLA P ops Q w2 rest (a.put o.dst (.slice (some ⟨p, 0, none⟩) len len))) : wpLA P ops Q w0 (o :: rest) a := .mk fun w hb =>
  Great.wpList_buildSliceTo hg t e len parts ho w.heap.size rfl _ rfl hu xs.toArray (by rw [Array.toList_map, hl]; exact hf) ((h w.heap.size (w.alloc (.cells xs.toArray e)) (hb.alloc hb.size _) (.inr ⟨w.heap.size, 0, rfl, by simp, by simpa using hn, hm, fun j u hj => by
    rw [Nat.zero_add, cell_of_row _ _ j _ e (0, 0) (heap_alloc_new w _)]
    simpa using hj⟩)).out _ (Below.refl _ _))
end Go.Proofs.YtgehfbcagaaggaaGreatDoor
end
