/-
  Texts of this claim in one file: ScF.
-/
import Derived.Test.YtgehfbcagaaggaaGreatDoorPk44
section
namespace Go.Proofs.YtgehfbcagaaggaaGreatDoor
open Go.RowKit
set_option linter.unusedVariables false
set_option linter.unusedSimpArgs false
abbrev SF := Fin 7237005577332262213973186563042994240857116359379907606001950938285454250989
/-- A scalar's cells. -/
def sF (a : SF) : Array Value := sA a.val
theorem SF_lt (a : SF) : a.val < ordL := a.isLt
theorem scMul {a b r : SF} (hr : r = a * b) : Hid (∀ W : World, Calls Tryz.prog 46 #[.agg (sF a), .agg (sF b)] W fun e w' => e = .returned (.agg (sF r)) ∧ Below W.heap.size W w') := hid fun W => by
  have e : r.val = a.val * b.val % ordL := by rw [hr, Fin.val_mul]; rfl
  unfold sF
  rw [e]
  exact ScMul_e a.val b.val W (SF_lt a) (SF_lt b)
theorem scAdd {a b r : SF} (hr : r = a + b) : Hid (∀ W : World, Calls Tryz.prog 45 #[.agg (sF a), .agg (sF b)] W fun e w' => e = .returned (.agg (sF r)) ∧ Below W.heap.size W w') := hid fun W => by
  have e : r.val = (a.val + b.val) % ordL := by rw [hr, Fin.val_add]; rfl
  unfold sF
  rw [e]
  exact ScAdd_e a.val b.val W (SF_lt a) (SF_lt b)
def ofS (xs : List UInt8) : SF := ⟨ofL xs, ofL_lt xs⟩
theorem scOf (xs : List UInt8) (hl : xs.length ≤ 1000) : Hid (∀ (A : Option Addr) (c : Nat) (W : World), Sq W W.heap.size A c (bvs xs) → Calls Tryz.prog 68 #[.slice A xs.length c] W fun e w' => e = .returned (.agg (sF (ofS xs))) ∧ Below W.heap.size W w') := hid fun A c W h => ScOf_e A xs c W h hl
theorem sF_all (a : SF) : (sF a).extract 0 (0 + (sF a).size) = sF a := sA_all a.val
theorem infoSF (a : SF) : (Tryz.prog.info? ST).map (·.size) = some (sF a).size := infoSA a.val
theorem oneSF (a : SF) : (sF a).all (·.oneCell') = true := oneSA a.val
end Go.Proofs.YtgehfbcagaaggaaGreatDoor
end
