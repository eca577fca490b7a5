/-
  Texts of this claim in one file: Izs.
-/
import Derived.Test.YthooibljnfnnhaaPk25
section
namespace Go.Proofs.Ythooibljnfnnhaa
open Go Go.RowKit
set_option linter.unusedVariables false
set_option linter.unusedSimpArgs false
/-- Numbers of either sign, as cells. -/
def izs (xs : List Int) : List Value := xs.map fun x => Value.int .i64 x
@[simp] theorem izs_length (xs : List Int) : (izs xs).length = xs.length := by simp [izs]
theorem Lie.numZ {w : World} {B : Nat} {A : Option Addr} {xs : List Int} (h : Lie w B A (izs xs)) {k : Nat} (hk : k < xs.length) : ∃ b o, A = some ⟨b, o, none⟩ ∧ b < B ∧ w.cell? ⟨b, o + k, none⟩ = some (.int .i64 xs[k]) := by
  obtain ⟨b, o, hA, hb, hc⟩ := h.at_ (k := k) (by simpa using hk)
  refine ⟨b, o, hA, hb, ?_⟩
  rw [hc]
  simp [izs]
end Go.Proofs.Ythooibljnfnnhaa
end
