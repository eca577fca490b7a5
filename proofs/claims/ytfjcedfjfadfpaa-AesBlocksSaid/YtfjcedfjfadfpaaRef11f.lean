/-
  The document's layer 11: sixteen whole numbers in a row of memory.
-/
import Derived.Test.YtfjcedfjfadfpaaRef11e
import Derived.Test.YtfjcedfjfadfpaaAesI
namespace Go.Proofs.Ytfjcedfjfadfpaa
open Go.RowKit
set_option linter.unusedVariables false
set_option linter.unusedSimpArgs false

/-- Sixteen whole numbers. -/
def bI (f : Nat → Nat) : Array Value := (iR f 16).toArray
theorem bI_get (f : Nat → Nat) (k : Nat) (h : k < 16) : (bI f)[k]? = some (.int .i64 ((f k : Nat) : Int)) := by
  unfold bI
  rw [List.getElem?_toArray, iR_at _ _ _ h]
theorem bI_set (f : Nat → Nat) (k v : Nat) (h : k < 16) : (bI f).setIfInBounds k (.int .i64 (v : Int)) = bI fun q => if q = k then v else f q := by
  unfold bI
  rw [List.setIfInBounds_toArray]
  congr 1
  apply List.ext_getElem
  · simp [iR]
  · intro i h1 h2
    rw [List.getElem_set]
    simp only [iR, List.getElem_map, List.getElem_range]
    by_cases e : k = i
    · rw [if_pos e, if_pos e.symm]
    · rw [if_neg e, if_neg (Ne.symm e)]
theorem bI_congr {f h : Nat → Nat} (e : ∀ i, i < 16 → f i = h i) : bI f = bI h := by unfold bI; rw [iR_congr 16 e]
theorem mkI16 (W : World) : (Instr.makeSlice 32 (.int .i64 16) (.int .i64 16)).run Try.prog W = .ok (.slice (some ⟨W.heap.size, 0, none⟩) 16 16) (W.alloc (.cells (bI fun _ => 0) 3)) := by
  have h := run_make_row' (P := Try.prog) 32 3 (.int .i64 0) 8 Try.underlying32 infoI1 rfl .i64 .i64 16 (by omega) (by omega) W
  have hz : madeCells #[Value.int .i64 0] 16 = bI fun _ => 0 := by
    have e := toList_madeCells_one (Value.int .i64 0) 16
    refine Array.toList_inj.1 ?_
    rw [e]
    rfl
  rw [hz] at h
  exact h
theorem i64_s {a b z : Nat} (h : z = a + b) (hz : z < 1000) : IntKind.i64.wrap ((a : Int) + (b : Int)) = (z : Int) := (IntWalk.i64_in _ (by omega)).trans (by omega)
theorem i64_4 {a z : Nat} (h : z = 4 * a) (hz : z < 1000) : IntKind.i64.wrap (4 * (a : Int)) = (z : Int) := (IntWalk.i64_in _ (by omega)).trans (by omega)
/-- The product by 2 and by 3. -/
theorem mix_doc {a b : Nat} (ha : a < 256) (hb : b < 256) : tmN 2 a ^^^ tmN 3 b = dblN (a ^^^ b) ^^^ b := by
  rw [dblN_tm _ (xor_b ha hb), tm_comm (xor_b ha hb) (by decide), tm_xor_right, show (3 : Nat) = 2 ^^^ 1 by decide, tm_xor_left 2 1 b, tm_one_left hb, Nat.xor_assoc]
theorem mixS_at {T : Nat → Nat} (hT : ∀ i, T i < 256) (k cc : Nat) (hk : k < 4) : tmN 2 (T (k + 4 * cc)) ^^^ tmN 3 (T ((k + 1) % 4 + 4 * cc)) ^^^ T ((k + 2) % 4 + 4 * cc) ^^^ T ((k + 3) % 4 + 4 * cc) = mixS T (k + 4 * cc) := by
  rw [mix_doc (hT _) (hT _)]
  unfold mixS
  have e1 : (k + 4 * cc) / 4 = cc := by omega
  have e2 : (k + 4 * cc) % 4 = k := by omega
  rw [e1, e2]
  unfold mixN
  show _ = dblN (T (4 * cc + k) ^^^ T (4 * cc + (k + 1) % 4)) ^^^ T (4 * cc + (k + 1) % 4) ^^^ T (4 * cc + (k + 2) % 4) ^^^ T (4 * cc + (k + 3) % 4)
  have f0 : 4 * cc + k = k + 4 * cc := Nat.add_comm _ _
  have f1 : 4 * cc + (k + 1) % 4 = (k + 1) % 4 + 4 * cc := Nat.add_comm _ _
  have f2 : 4 * cc + (k + 2) % 4 = (k + 2) % 4 + 4 * cc := Nat.add_comm _ _
  have f3 : 4 * cc + (k + 3) % 4 = (k + 3) % 4 + 4 * cc := Nat.add_comm _ _
  rw [f0, f1, f2, f3]
theorem i64_xor_b (a b : Nat) (ha : a < 256) (hb : b < 256) : bits .xor .i64 (a : Int) (b : Int) = ((a ^^^ b : Nat) : Int) := i64_xor_nat' a b (by omega) (by omega)
theorem mix_q {k cc j r s m q : Nat} (hk : k < 4) (hc : cc < 4) (hm : m = 4 * cc) (hr : r = k + j) (hj : j ≤ 3) (hs : s = r % 4) (hq : q = s + m) :
    IntKind.i64.wrap ((k : Int) + (j : Int)) = (r : Int) ∧ (r : Int).tmod 4 = (s : Int) ∧ (r : Int) % 4 = (s : Int) ∧ IntKind.i64.wrap (s : Int) = (s : Int) ∧ IntKind.i64.wrap ((s : Int) + (m : Int)) = (q : Int) ∧ (q : Int) < 16 ∧ (0 : Int) ≤ (q : Int) ∧ q < 16 := by
  obtain ⟨a, b, c⟩ := rem4 hs (by omega)
  exact ⟨i64_s hr (by omega), a, b, c, i64_s hq (by omega), by omega, by omega, by omega⟩
theorem still_drew {B : Nat} {a w : World} (h : Below B a w) : Below B a w.drew := ⟨h.os, h.tape, h.output, h.size, h.block⟩
end Go.Proofs.Ytfjcedfjfadfpaa
