/-
  Package long: a word put as bytes.
-/
import Derived.Test.YtokggppfobbblaaDoorLon4
import Derived.Test.YtokggppfobbblaaDoorSha7
namespace Go.Proofs.YtokggppfobbblaaDoor
open Go.RowKit
set_option linter.unusedVariables false
set_option linter.unusedSimpArgs false

theorem setCells_snoc (vs : List Value) (v : Value) (w : World) (g o : Nat) : w.setCells g o (vs ++ [v]) = (w.setCells g o vs).setCell ⟨g, o + vs.length, none⟩ v := by
  induction vs generalizing w o with
  | nil => rfl
  | cons x l ih =>
    rw [List.cons_append, World.setCells, World.setCells, ih, List.length_cons]
    rw [show o + 1 + l.length = o + (l.length + 1) by omega]
theorem be8_get (x k j : Nat) (h : k + j = 7) : (beBytes 8 x)[k]'(by simp; omega) = UInt8.ofNat (x / 256 ^ j) := by
  have : k = 0 ∧ j = 7 ∨ k = 1 ∧ j = 6 ∨ k = 2 ∧ j = 5 ∨ k = 3 ∧ j = 4 ∨ k = 4 ∧ j = 3 ∨ k = 5 ∧ j = 2 ∨ k = 6 ∧ j = 1 ∨ k = 7 ∧ j = 0 := by omega
  rcases this with ⟨rfl, rfl⟩ | ⟨rfl, rfl⟩ | ⟨rfl, rfl⟩ | ⟨rfl, rfl⟩ | ⟨rfl, rfl⟩ | ⟨rfl, rfl⟩ | ⟨rfl, rfl⟩ | ⟨rfl, rfl⟩ <;> rfl

set_option maxHeartbeats 800000 in
theorem put_any (g o L c x : Nat) (cur : Array Value) (t : TypeId) (w : World) (hx : x < 18446744073709551616) (hL : 8 ≤ L) (hL2 : L ≤ 9223372036854775807) (hg : w.heap[g]? = some (.cells cur t (0, 0))) (ho : o + 8 ≤ cur.size) :
    Calls Tryd.prog 64 #[.slice (some ⟨g, o, none⟩) L c, .int .u64 (x : Int)] w fun e w' => e = .returned (.tuple #[]) ∧ w' = w.setCells g o (bvs (beBytes 8 x)) := by
  have HG := hid hg
  have HB := hid (beBytes_length 8 x)
  clear hg
  go_enter Tryd.func64, Tryd.ntmps64
  go_wp2
  go_loopg [5] 8 (fun r i wr => ∃ k : Nat, k + r = 8 ∧ i = .int .i64 (k : Int) ∧ wr = w.setCells g o (bvs ((beBytes 8 x).take k)))
  case atStart => exact ⟨0, rfl, rfl, rfl⟩
  case round =>
    obtain ⟨k, hk, rfl, hw⟩ := hrel
    have hkb : k ≤ 8 := by omega
    have HK := hid hk
    clear hk
    by_cases hlt : k < 8
    · have hx8 : (k : Int) < 8 := by omega
      have hk0 : (0 : Int) ≤ (k : Int) := by omega
      have hkL : (k : Int) < (L : Int) := by omega
      obtain ⟨j, hj⟩ : ∃ j, k + j = 7 := ⟨7 - k, by omega⟩
      have hrow := heap_setCells (bvs ((beBytes 8 x).take k)) HG.out o (by simp; omega)
      rw [← hw] at hrow
      have hsz : o + k < (cur.toList.take o ++ (bvs ((beBytes 8 x).take k) ++ cur.toList.drop (o + (bvs ((beBytes 8 x).take k)).length))).toArray.size := by
        simp; omega
      obtain ⟨v, hv⟩ : ∃ v, wr.cell? ⟨g, o + k, none⟩ = some v := ⟨_, cell_of hrow _ _ (Array.getElem?_eq_getElem hsz)⟩
      have hfz : wr.frozen? ⟨g, o + k, none⟩ = false := frozen_of_row _ _ _ _ _ hrow
      have HW := hid hw
      have HJ := hid hj
      have hb : (beBytes 8 x).take (k + 1) = (beBytes 8 x).take k ++ [UInt8.ofNat (x / 256 ^ j)] := by
        rw [List.take_succ_eq_append_getElem (by simp; omega), be8_get x k j hj]
      have HBE := hid hb
      have e7 : (7 - (k : Int)) = (j : Int) := by omega
      have hj63 : 8 * (j : Int) < 64 := by omega
      clear hrow hsz hw hj hb
      go_wp2
      have hW : wr.setCell ⟨g, o + k, none⟩ (Value.int .u8 ((x : Int) / 2 ^ (8 * j) % 256)) = w.setCells g o (bvs ((beBytes 8 x).take (k + 1))) := by
        rw [HBE.out, bvs_append, show bvs [UInt8.ofNat (x / 256 ^ j)] = [Value.int .u8 (((UInt8.ofNat (x / 256 ^ j)).toNat : Nat) : Int)] from rfl, setCells_snoc, ← HW.out, ← shr_val]
        congr 3
        simp; omega
      have hk := HK.out
      go_roundg (8 - k - 1)
      case measure => omega
      case rel => exact ⟨k + 1, by omega, by go_num, hW⟩
    · obtain rfl : k = 8 := by have := HK.out; omega
      rw [List.take_of_length_le (by simp)] at hw
      have HW := hid hw
      clear hw
      go_wp2
      go_end0
      exact ⟨rfl, HW.out⟩
end Go.Proofs.YtokggppfobbblaaDoor
