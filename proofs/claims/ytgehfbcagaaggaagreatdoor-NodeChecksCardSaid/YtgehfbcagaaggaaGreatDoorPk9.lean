/-
  Texts of this claim in one file: Rnd.
-/
import Derived.RangeFuncNested
import Derived.OrdersIn
import Derived.Great.Walk
import Derived.Test.YtgehfbcagaaggaaGreatDoorPk34
import Derived.Test.YtgehfbcagaaggaaGreatDoorPk32
import Derived.Test.YtgehfbcagaaggaaGreatDoorPk31
section
namespace Go.Proofs.YtgehfbcagaaggaaGreatDoor
open Go Go.RowKit
set_option linter.unusedVariables false
set_option linter.unusedSimpArgs false
section
variable {P : Program} {ops : Array Oper} {Q : Exit → Act → World → Prop} {md : Region.Mode} {n : Nat}
theorem wpGr_ready1 {L : Array Bool → Act → World → Prop} {f : Nat} {rs : List Nat} {listed : Array Bool} {a : Act} {w : World} (hr : Region.ready md ops listed = rs) (hne : rs ≠ []) (hn : rs.all (· < n) = true)
    (h : ∀ i ∈ rs, wpOp P ops Q i (fun a' w' => Below w.heap.size w w' ∧ ∀ w'', Below w'.heap.size w' w'' → wpGr P md ops Q n L f (listed.setIfInBounds i true) a' w'') a w) : wpGr P md ops Q n L (f + 1) listed a w := fun _ =>
  ⟨hr ▸ hne, hr ▸ fun i hi => ⟨by simpa using List.all_eq_true.1 hn i hi, h i hi⟩⟩
theorem wpOp_sliceTo1 {i : Nat} {o : Oper} {K : Act → World → Prop} {a : Act} {w : World} (hi : ops[i]? = some o) (hg : Region.wanted o (yielded ops a.tmps) = true) (t e : TypeId) (len : Nat) (parts : Array (Nat × Operand)) (ho : o.op = .buildSlice t len parts)
    (hu : P.underlying t = some (.slice e)) (cells : Array Value) (hf : P.builtSlice e len (parts.map fun (i, x) => (i, a.eval x)).toList = some cells)
    (h : K (a.put o.dst (.slice (some ⟨w.heap.size, 0, none⟩) len len)) (w.alloc (.cells cells e))) : wpOp P ops Q i K a w := by
  unfold wpOp
  simp only [hi]
  rw [if_pos hg]
  refine .inl ?_
  unfold Program.builtSlice at hf
  cases hie : P.info? e with
  | none => simp [hie] at hf
  | some ie =>
    simp only [hie] at hf
    cases hz : ie.zero with
    | none => simp [hz] at hf
    | some z =>
      simp only [hz] at hf
      by_cases hc : len * ie.size > 2 ^ 24 ∨ len * ie.size = 0
      · simp [hc] at hf
      · rw [if_neg hc] at hf
        exact wp_buildSlice t e len parts ho cells ie z hu hie hz (fun h' => hc (Or.inl h')) (fun h' => hc (Or.inr h')) hf h
/-- The same in a drawn region: the only one that may come up. -/
theorem wpGrA_slice1 {g f : Nat} {l : List Oper} {i : Nat} {oi : Oper} {listed : Array Bool} {a : Act} {w0 : World} (hi : ops[i]? = some oi) (hrd : (Region.ready md ops listed == [i] && decide (i < n)) = true)
    (hw : Region.wanted oi (yielded ops a.tmps) = true) (t e : TypeId) (len : Nat) (parts : Array (Nat × Operand)) (ho : oi.op = .buildSlice t len parts) (hu : P.underlying t = some (.slice e))
    (ls : List (Nat × Value)) (hl : (parts.toList.map fun (i, x) => (i, a.eval x)) = ls) (xs : List Value) (hf : P.builtSlice e len ls = some xs.toArray) (hn : xs.length ≤ len) (hm : len ≤ 9223372036854775807)
    (h : ∀ p w2, Below w0.heap.size w0 w2 → Sq w2 w2.heap.size (some ⟨p, 0, none⟩) len xs → wpGrA P md ops Q n (GrL P md ops Q g n l) w2 f (listed.setIfInBounds i true) (a.put oi.dst (.slice (some ⟨p, 0, none⟩) len len))) : wpGrA P md ops Q n (GrL P md ops Q g n l) w0 (f + 1) listed a := fun w hb => by
  simp only [Bool.and_eq_true, decide_eq_true_eq, beq_iff_eq] at hrd
  refine wpGr_ready1 hrd.1 (by simp) (by simp [hrd.2]) fun j hj => ?_
  simp only [List.mem_singleton] at hj
  subst hj
  refine wpOp_sliceTo1 hi hw t e len parts ho hu xs.toArray (by rw [Array.toList_map, hl]; exact hf) ⟨(Below.refl _ _).alloc (Nat.le_refl _) _, fun w3 hw3 => ?_⟩
  refine h w.heap.size (w.alloc (.cells xs.toArray e)) (hb.alloc hb.size _) (.inr ⟨w.heap.size, 0, rfl, by simp, by simpa using hn, hm, fun j u hj => ?_⟩) w3 hw3
  rw [Nat.zero_add, cell_of_row _ _ j _ e (0, 0) (heap_alloc_new w _)]
  simpa using hj
end
end Go.Proofs.YtgehfbcagaaggaaGreatDoor
end
