/-
  Texts of this claim in one file: Row4.
-/
import Derived.Test.YtojlmlmjmlbjmaaPk22
import Derived.Deep.WholeRow
import Derived.Deep.MidRow
section
namespace Go.Proofs.Ytojlmlmjmlbjmaa
open Go.RowKit
set_option linter.unusedVariables false
set_option linter.unusedSimpArgs false
/-- Four words. -/
abbrev e4 (a b c d : Nat) : Array Value := #[.int .u64 (a : Int), .int .u64 (b : Int), .int .u64 (c : Int), .int .u64 (d : Int)]
theorem belowRow {B : Nat} {a w : World} (h : Below B a w) {g : Nat} (hg : B ≤ g) (cs : Array Value) : Below B a (w.setRow g cs) :=
  ⟨h.os, h.tape, h.output, by rw [size_setRow]; exact h.size, fun k hk => (setRow_other w g k cs (by omega)).trans (h.block k hk)⟩
theorem blkN {w : World} {k : Nat} (hk : w.heap.size = k) (cs : Array Value) (t : TypeId) : (w.alloc (.cells cs t)).heap[k]? = some (.cells cs t (0, 0)) := by subst hk; exact heap_alloc_new w _
theorem blkA {w : World} {k : Nat} {cs : Array Value} {t : TypeId} (h : w.heap[k]? = some (.cells cs t (0, 0))) (o : Obj) : (w.alloc o).heap[k]? = some (.cells cs t (0, 0)) := block_grown h (World.grownBy_alloc w o none) (by simp)
theorem block_below {B : Nat} {a w : World} (h : Below B a w) {k : Nat} {o : Obj} (hk : k < B) (hg : a.heap[k]? = some o) : w.heap[k]? = some o := by rw [h.block k hk]; exact hg
abbrev z4 : Array Value := #[.int .u64 0, .int .u64 0, .int .u64 0, .int .u64 0]
end Go.Proofs.Ytojlmlmjmlbjmaa
end
