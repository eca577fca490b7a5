/-
  Package field's calls over the field FF: opposites, held against another, odd ones, of bytes, roots; package curve's cells.
-/
import Derived.Test.YtealegfmmeklcaaFFeSq
import Derived.Test.YtealegfmmeklcaaFldNos
import Derived.Test.YtealegfmmeklcaaCvP
namespace Go.Proofs.Ytealegfmmeklcaa
open Go Go.RowKit
set_option linter.unusedVariables false
set_option linter.unusedSimpArgs false

theorem negE {a r : FF} (hr : r = -a) : Hid (∀ W : World, Calls Try.prog 38 #[.agg (eF a)] W fun e w' => e = .returned (.agg (eF r)) ∧ Below W.heap.size W w') := hid fun W => by
  have e : r.val = (pp - a.val) % pp := by rw [hr]; rfl
  unfold eF
  rw [e]
  exact Neg_e a.val W a.isLt
theorem oddE (a : FF) : Hid (∀ W : World, Calls Try.prog 54 #[.agg (eF a)] W fun e w' => e = .returned (.bool (decide (a.val % 2 = 1))) ∧ Below W.heap.size W w') := hid fun W => Odd_e a.val W a.isLt
theorem sameE {a b : FF} {t : Bool} (ht : t = decide (a = b)) : Hid (∀ W : World, Calls Try.prog 41 #[.agg (eF a), .agg (eF b)] W fun e w' => e = .returned (.bool t) ∧ Below W.heap.size W w') := hid fun W => by
  have h : t = decide (a.val = b.val) := by rw [ht]; exact decide_eq_decide.2 ⟨fun h => by rw [h], fun h => Fin.ext h⟩
  rw [h]
  exact Same_e a.val b.val W a.isLt b.isLt
/-- The number of bytes. -/
def ofF (xs : List UInt8) : FF := ⟨ofN xs, ofN_lt xs⟩
theorem ofE {xs : List UInt8} {r : FF} (hr : r = ofF xs) : Hid (∀ (A : Option Addr) (c : Nat) (W : World), Sq W W.heap.size A c (bvs xs) → Calls Try.prog 36 #[.slice A xs.length c] W fun e w' => e = .returned (.agg (eF r)) ∧ Below W.heap.size W w') := hid fun A c W h => by
  subst hr
  exact Of_e A xs c W h

/-! Cells. -/
def cP (x a : FF) : Array Value := eF x ++ eF a
def cR (x y z t : FF) : Array Value := eF x ++ eF y ++ eF z ++ eF t
def cA (l m p : FF) : Array Value := eF l ++ eF m ++ eF p
def cT (l m p l' m' p' : FF) : Array Value := eF l ++ eF m ++ eF p ++ eF l' ++ eF m' ++ eF p'
theorem eF_size (a : FF) : (eF a).size = 4 := rfl
theorem cP_size (x a : FF) : (cP x a).size = 8 := by unfold cP; simp [eF_size]
theorem cR_size (x y z t : FF) : (cR x y z t).size = 16 := by unfold cR; simp [eF_size]
theorem cA_size (l m p : FF) : (cA l m p).size = 12 := by unfold cA; simp [eF_size]
theorem cT_size (l m p l' m' p' : FF) : (cT l m p l' m' p').size = 24 := by unfold cT; simp [eF_size]
theorem eF_one (a : FF) : (eF a).all (·.oneCell') = true := oneEA _
theorem cP_one (x a : FF) : (cP x a).all (·.oneCell') = true := by unfold cP; simp only [Array.all_append, eF_one, Bool.and_self]
theorem cR_one (x y z t : FF) : (cR x y z t).all (·.oneCell') = true := by unfold cR; simp only [Array.all_append, eF_one, Bool.and_self]
theorem cA_one (l m p : FF) : (cA l m p).all (·.oneCell') = true := by unfold cA; simp only [Array.all_append, eF_one, Bool.and_self]
theorem cT_one (l m p l' m' p' : FF) : (cT l m p l' m' p').all (·.oneCell') = true := by unfold cT; simp only [Array.all_append, eF_one, Bool.and_self]
theorem eF_all (a : FF) : (eF a).extract 0 (0 + (eF a).size) = eF a := by simp
theorem cP_all (x a : FF) : (cP x a).extract 0 (0 + (cP x a).size) = cP x a := by simp
theorem cR_all (x y z t : FF) : (cR x y z t).extract 0 (0 + (cR x y z t).size) = cR x y z t := by simp
theorem cA_all (l m p : FF) : (cA l m p).extract 0 (0 + (cA l m p).size) = cA l m p := by simp
theorem cP_0 (x a : FF) : (cP x a).extract 0 (0 + (eF x).size) = eF x := by kernel_rfl
theorem cP_4 (x a : FF) : (cP x a).extract 4 (4 + (eF a).size) = eF a := by kernel_rfl
theorem cR_0 (x y z t : FF) : (cR x y z t).extract 0 (0 + (eF x).size) = eF x := by kernel_rfl
theorem cR_4 (x y z t : FF) : (cR x y z t).extract 4 (4 + (eF y).size) = eF y := by kernel_rfl
theorem cR_8 (x y z t : FF) : (cR x y z t).extract 8 (8 + (eF z).size) = eF z := by kernel_rfl
theorem cR_12 (x y z t : FF) : (cR x y z t).extract 12 (12 + (eF t).size) = eF t := by kernel_rfl
theorem cA_0 (l m p : FF) : (cA l m p).extract 0 (0 + (eF l).size) = eF l := by kernel_rfl
theorem cA_4 (l m p : FF) : (cA l m p).extract 4 (4 + (eF m).size) = eF m := by kernel_rfl
theorem cA_8 (l m p : FF) : (cA l m p).extract 8 (8 + (eF p).size) = eF p := by kernel_rfl
theorem cT_0 (l m p l' m' p' : FF) : (cT l m p l' m' p').extract 0 (0 + (cA l m p).size) = cA l m p := by kernel_rfl
theorem cT_12 (l m p l' m' p' : FF) : (cT l m p l' m' p').extract 12 (12 + (cA l' m' p').size) = cA l' m' p' := by kernel_rfl
abbrev PT : TypeId := 28
abbrev RT : TypeId := 74
abbrev AT : TypeId := 78
abbrev TT : TypeId := 93
theorem infoF (a : FF) : (Try.prog.info? ET).map (·.size) = some (eF a).size := infoEA _
theorem infoPc (x a : FF) : (Try.prog.info? PT).map (·.size) = some (cP x a).size := by rw [cP_size]; kernel_rfl
theorem infoR (x y z t : FF) : (Try.prog.info? RT).map (·.size) = some (cR x y z t).size := by rw [cR_size]; kernel_rfl
theorem infoA (l m p : FF) : (Try.prog.info? AT).map (·.size) = some (cA l m p).size := by rw [cA_size]; kernel_rfl
theorem infoT (l m p l' m' p' : FF) : (Try.prog.info? TT).map (·.size) = some (cT l m p l' m' p').size := by rw [cT_size]; kernel_rfl
theorem zeroF : (Try.prog.info? ET).map (fun i => (i.zero, i.size)) = some (some (.agg (eF 0)), 4) := by kernel_rfl
theorem zeroPc : (Try.prog.info? PT).map (fun i => (i.zero, i.size)) = some (some (.agg (cP 0 0)), 8) := by kernel_rfl
theorem zeroRc : (Try.prog.info? RT).map (fun i => (i.zero, i.size)) = some (some (.agg (cR 0 0 0 0)), 16) := by kernel_rfl
theorem zeroAc : (Try.prog.info? AT).map (fun i => (i.zero, i.size)) = some (some (.agg (cA 0 0 0)), 12) := by kernel_rfl
theorem zeroTc : (Try.prog.info? TT).map (fun i => (i.zero, i.size)) = some (some (.agg (cT 0 0 0 0 0 0)), 24) := by kernel_rfl
theorem builtP0 : Try.prog.built PT [] = some (cP 0 0) := by kernel_rfl
theorem builtPc (x a : FF) : Try.prog.built PT [(0, .agg (eF x)), (1, .agg (eF a))] = some (cP x a) := by kernel_rfl
theorem builtRc (x y z t : FF) : Try.prog.built RT [(0, .agg (eF x)), (1, .agg (eF y)), (2, .agg (eF z)), (3, .agg (eF t))] = some (cR x y z t) := by kernel_rfl
theorem builtAc (l m p : FF) : Try.prog.built AT [(0, .agg (eF l)), (1, .agg (eF m)), (2, .agg (eF p))] = some (cA l m p) := by kernel_rfl
theorem builtTc (l m p l' m' p' : FF) : Try.prog.built TT [(0, .agg (cA l m p)), (1, .agg (cA l' m' p'))] = some (cT l m p l' m' p') := by kernel_rfl
theorem dE : Hid (dd.val = 37095705934669439343138083508754565189542113879843219016388785533085940283555) := hid rfl
end Go.Proofs.Ytealegfmmeklcaa
