/-
  Package wire, the putting side, part 4: the calls themselves, where what is put can be.
-/
import Derived.Test.YtpdkpadpdkagoaaDoorWire3
import Derived.Deep.LoopGhost
namespace Go.Proofs.YtpdkpadpdkagoaaDoor
open Go.RowKit
set_option linter.unusedVariables false
set_option linter.unusedSimpArgs false

/-- How many bytes the vectors of a list have. -/
def total : List (List UInt8) → Nat
  | [] => 0
  | x :: l => lenSize x.length + x.length + total l
theorem total_append (a b : List (List UInt8)) : total (a ++ b) = total a + total b := by
  induction a with
  | nil => simp [total]
  | cons x l ih => simp [total, ih]; omega
theorem total_take (l : List (List UInt8)) (k : Nat) (hk : k < l.length) : total (l.take (k + 1)) = total (l.take k) + (lenSize l[k].length + l[k].length) := by
  rw [List.take_succ_eq_append_getElem hk, total_append]; simp [total]
theorem total_le (l : List (List UInt8)) (k : Nat) : total (l.take k) ≤ total l := by
  have := total_append (l.take k) (l.drop k)
  rw [List.take_append_drop] at this
  omega
/-- The vectors of a list, one behind the other. -/
def joinVecs : List (List UInt8) → List UInt8
  | [] => []
  | x :: l => vecBytes x ++ joinVecs l
theorem joinVecs_length (l : List (List UInt8)) : (joinVecs l).length = total l := by
  induction l with
  | nil => rfl
  | cons x l ih => simp [joinVecs, total, vecBytes, lenBytes_length, ih]; omega
theorem joinVecs_append (a b : List (List UInt8)) : joinVecs (a ++ b) = joinVecs a ++ joinVecs b := by
  induction a with
  | nil => simp [joinVecs]
  | cons x l ih => simp [joinVecs, ih]
theorem joinVecs_take (l : List (List UInt8)) (k : Nat) (hk : k < l.length) : joinVecs (l.take (k + 1)) = joinVecs (l.take k) ++ vecBytes l[k] := by
  rw [List.take_succ_eq_append_getElem hk, joinVecs_append]; simp [joinVecs]

theorem lenSz_lenSize (n : Nat) (h : n < 1073741824) : lenSz (n : Int) = (lenSize n : Int) := by
  unfold lenSz lenSize
  rw [if_neg (by omega)]
  split
  · rw [if_pos (by omega)]; rfl
  · split
    · rw [if_neg (by omega), if_pos (by omega)]; rfl
    · rw [if_neg (by omega), if_neg (by omega)]; rfl

theorem PutNum_ok (A : Option Addr) (xs : List UInt8) (c size n : Nat) (w : World) (hs : size = 1 ∨ size = 2 ∨ size = 4 ∨ size = 8) (hn : n < 18446744073709551616) (hA : Lie w w.heap.size A (bvs xs)) (hb : xs.length + 8 ≤ 140737488355328) :
    Calls Tryd.prog 32 #[.slice A xs.length c, .int .i64 (size : Int), .int .u64 (n : Int)] w fun e w' => ∃ v, e = .returned v ∧ OwnB w' w.heap.size v (xs ++ beBytes size n) ∧ Below w.heap.size w w' := by
  go_enter Tryd.func32, Tryd.ntmps32
  go_wp2_with fail
  refine (isNumSize_yes _ _ (by omega)).mono ?_
  rintro e w' ⟨rfl, rfl⟩
  go_wp2_with fail
  refine (roomy_any A xs c size _ hA (by omega)).mono ?_
  rintro e w1 ⟨v1, rfl, ho, hbl⟩
  go_wp2_with fail
  refine (appendNum_any v1 xs size n w1 w.heap.size (by omega) hn ho hbl.size hb).mono ?_
  rintro e w2 ⟨v2, rfl, ho2, hg, hs2⟩
  go_wp2
  go_ret
  exact ⟨v2, rfl, ho2, hbl.grown hg hbl.size (own_lt ho)⟩

theorem PutVec_ok (A : Option Addr) (xs : List UInt8) (c : Nat) (A' : Option Addr) (ys : List UInt8) (c' : Nat) (w : World) (hn : ys.length < 1073741824) (hA : Lie w w.heap.size A (bvs xs)) (hA' : Lie w w.heap.size A' (bvs ys)) (hb : xs.length + 1073741840 ≤ 140737488355328) :
    Calls Tryd.prog 25 #[.slice A xs.length c, .slice A' ys.length c'] w fun e w' => ∃ v, e = .returned v ∧ OwnB w' w.heap.size v (xs ++ vecBytes ys) ∧ Below w.heap.size w w' := by
  have hl := lenSize_le ys.length
  have hsz := lenSz_lenSize ys.length hn
  have HS := hid hsz
  clear hsz
  generalize lenSize ys.length = s at *
  have h0 : ((s : Int) == 0) = false := by simp; omega
  go_enter Tryd.func25, Tryd.ntmps25
  go_wp2_with fail
  refine (LenSize_any _ _).mono ?_
  rintro e w' ⟨rfl, rfl⟩
  rw [HS.out]
  go_wp2_with fail
  rw [show ((s : Int) + (ys.length : Int)) = ((s + ys.length : Nat) : Int) from by omega]
  refine (roomy_any A xs c (s + ys.length) _ hA (by omega)).mono ?_
  rintro e w1 ⟨v1, rfl, ho, hbl⟩
  go_wp2_with fail
  refine (appendVec_any v1 xs A' ys c' w1 w.heap.size hn ho hbl.size (hA'.below hbl) (by omega)).mono ?_
  rintro e w2 ⟨v2, rfl, ho2, hg, hs2⟩
  go_wp2
  go_ret
  exact ⟨v2, rfl, ho2, hbl.grown hg hbl.size (own_lt ho)⟩

end Go.Proofs.YtpdkpadpdkagoaaDoor
