/-
  Texts of this claim in one file: BigP, Big3.
-/
import Derived.Test.YthooibljnfnnhaaPk26
import Derived.StillTailTactics
import Derived.Deep.QuietTactic
import Derived.BigQuiet
import Derived.Test.YthooibljnfnnhaaPk25
section
namespace Go.Proofs.Ythooibljnfnnhaa
set_option linter.unusedVariables false
set_option linter.unusedSimpArgs false
/-- All are digits. -/
def Dgs (ds : List Nat) : Prop := ∀ x ∈ ds, x < 32768
theorem Dgs.take {xs : List Nat} (h : Dgs xs) (k : Nat) : Dgs (xs.take k) := fun x hx => h x (List.mem_of_mem_take hx)
end Go.Proofs.Ythooibljnfnnhaa
end
section
namespace Go.Proofs.Ythooibljnfnnhaa
section
open Go.RowKit
set_option linter.unusedVariables false
set_option linter.unusedSimpArgs false
theorem infoI64 : (Try.prog.info? 3).map (fun i => (i.zero, i.size, i.bytes)) = some (some (.int .i64 0), 1, 8) := by kernel_rfl
/-- Digits as cells. -/
def ivs (xs : List Nat) : List Value := xs.map fun x => Value.int .i64 ((x : Nat) : Int)
@[simp] theorem ivs_length (xs : List Nat) : (ivs xs).length = xs.length := by simp [ivs]
theorem ivs_append (xs ys : List Nat) : ivs (xs ++ ys) = ivs xs ++ ivs ys := by simp [ivs]
theorem ivs_one (xs : List Nat) : ∀ u ∈ ivs xs, u.oneCell' = true := by
  intro u hu
  simp only [ivs, List.mem_map] at hu
  obtain ⟨x, _, rfl⟩ := hu
  rfl
/-- The call owns the digits xs. -/
def OwnI (w : World) (B : Nat) (v : Value) (xs : List Nat) : Prop := w.ownsRow B 3 1 v xs.length (ivs xs)
theorem owni_snoc {w : World} {B : Nat} {v : Value} {xs : List Nat} {n y : Nat} {z : Int} (h : w.ownsRow B 3 1 v n (ivs xs ++ [.int .i64 z])) (hn : n = xs.length + 1) (hz : z = (y : Int)) : OwnI w B v (xs ++ [y]) := by
  subst hn
  subst hz
  simpa [OwnI, ivs] using h
theorem owni_nil (w : World) (B : Nat) : OwnI w B (.slice none 0 0) [] := ⟨rfl, .inl ⟨rfl, rfl⟩⟩
end
section
open Go.RowKit
set_option linter.unusedVariables false
set_option linter.unusedSimpArgs false
end
section
open Go.RowKit
set_option linter.unusedVariables false
set_option linter.unusedSimpArgs false
theorem belowB_drewN {B : Nat} {a w : World} (h : Below B a w) (n : Nat) : Below B a (w.drewN n) := ⟨h.os, h.tape, h.output, h.size, h.block⟩
theorem Dgs.set {L : List Nat} (h : Dgs L) (p y : Nat) (hy : y < 32768) : Dgs (L.set p y) := fun x hx => by
  rcases List.mem_or_eq_of_mem_set hx with h1 | h1
  · exact h x h1
  · omega
theorem Dgs.getD {L : List Nat} (h : Dgs L) (p : Nat) : L.getD p 0 < 32768 := by
  by_cases hp : p < L.length
  · rw [List.getD_eq_getElem?_getD, List.getElem?_eq_getElem hp]; exact h _ (List.getElem_mem hp)
  · rw [List.getD_eq_getElem?_getD, List.getElem?_eq_none (by omega)]; decide
end
end Go.Proofs.Ythooibljnfnnhaa
end
