/-
  Texts of this claim in one file: FFe, FFeSq.
-/
import Derived.Test.YtgehfbcagaaggaaGreatDoorPk16
import Derived.Test.YtgehfbcagaaggaaGreatDoorPk10
import Derived.Test.YtgehfbcagaaggaaGreatDoorPk3
section
namespace Go.Proofs.YtgehfbcagaaggaaGreatDoor
open Go.RowKit
set_option linter.unusedVariables false
set_option linter.unusedSimpArgs false
/-- The number's four words, as the code holds them. -/
abbrev eF (a : FF) : Array Value := eA a.val
theorem subFv (a b : FF) : (a - b).val = (a.val + (pp - b.val)) % pp := by
  have h : (a - b).val = (pp - b.val + a.val) % pp := by rw [Fin.sub_def]; rfl
  rw [h, Nat.add_comm]
theorem mulE {a b r : FF} (hr : r = a * b) : Hid (∀ W : World, Calls Tryz.prog 108 #[.agg (eF a), .agg (eF b)] W fun e w' => e = .returned (.agg (eF r)) ∧ Below W.heap.size W w') := hid fun W => by
  have e : r.val = a.val * b.val % pp := by rw [hr, Fin.val_mul]; rfl
  unfold eF
  rw [e]
  exact Mul_e a.val b.val W a.isLt b.isLt
theorem addE {a b r : FF} (hr : r = a + b) : Hid (∀ W : World, Calls Tryz.prog 109 #[.agg (eF a), .agg (eF b)] W fun e w' => e = .returned (.agg (eF r)) ∧ Below W.heap.size W w') := hid fun W => by
  have e : r.val = (a.val + b.val) % pp := by rw [hr, Fin.val_add]; rfl
  unfold eF
  rw [e]
  exact Add_e a.val b.val W a.isLt b.isLt
theorem subE {a b r : FF} (hr : r = a - b) : Hid (∀ W : World, Calls Tryz.prog 102 #[.agg (eF a), .agg (eF b)] W fun e w' => e = .returned (.agg (eF r)) ∧ Below W.heap.size W w') := hid fun W => by
  unfold eF
  rw [hr, subFv]
  exact Sub_e a.val b.val W a.isLt b.isLt
theorem invE {a r : FF} (hr : r = FI a) : Hid (∀ W : World, Calls Tryz.prog 107 #[.agg (eF a)] W fun e w' => e = .returned (.agg (eF r)) ∧ Below W.heap.size W w') := hid fun W => by
  unfold eF
  rw [hr, FI_val]
  exact Inv_e a.val W a.isLt
theorem numE (n : Nat) {r : FF} (hn : n < 18446744073709551616) (hr : r.val = n) : Hid (∀ W : World, Calls Tryz.prog 103 #[.int .u64 (n : Int)] W fun e w' => e = .returned (.agg (eF r)) ∧ Below W.heap.size W w') := hid fun W => by
  unfold eF
  rw [hr]
  exact Num_e n W hn
theorem bytesE (a : FF) : Hid (∀ W : World, Calls Tryz.prog 81 #[.agg (eF a)] W fun e w' => ∃ v, e = .returned v ∧ OwnB w' W.heap.size v (leB 32 a.val) ∧ Below W.heap.size W w') := hid fun W =>
  Bytes_e a.val W (pp_lt a.isLt)
end Go.Proofs.YtgehfbcagaaggaaGreatDoor
end
section
namespace Go.Proofs.YtgehfbcagaaggaaGreatDoor
open Go.RowKit
theorem sqE {a r : FF} (hr : r = a * a) : Hid (∀ W : World, Calls Tryz.prog 111 #[.agg (eF a)] W fun e w' => e = .returned (.agg (eF r)) ∧ Below W.heap.size W w') := hid fun W => by
  have e : r.val = a.val * a.val % pp := by rw [hr, Fin.val_mul]; rfl
  unfold eF
  rw [e]
  exact Square_e a.val W a.isLt
end Go.Proofs.YtgehfbcagaaggaaGreatDoor
end
