/-
  Package wire, the putting side, part 3: lengths and vectors behind a row of the call's own.
-/
import Derived.Test.YtkdpaaaleicopaaWire2
namespace Go.Proofs.Ytkdpaaaleicopaa
open Go.RowKit
set_option linter.unusedVariables false
set_option linter.unusedSimpArgs false

/-- The bytes of a length. -/
def lenBytes (n : Nat) : List UInt8 := if n < 64 then beBytes 1 n else if n < 16384 then beBytes 2 (16384 + n) else beBytes 4 (2147483648 + n)
/-- The bytes of a vector. -/
def vecBytes (v : List UInt8) : List UInt8 := lenBytes v.length ++ v
def lenSize (n : Nat) : Nat := if n < 64 then 1 else if n < 16384 then 2 else 4
theorem lenBytes_length (n : Nat) : (lenBytes n).length = lenSize n := by
  unfold lenBytes lenSize
  split
  · simp
  · split <;> simp
theorem lenSize_le (n : Nat) : 1 ≤ lenSize n ∧ lenSize n ≤ 4 := by
  unfold lenSize
  split
  · omega
  · split <;> omega

set_option maxHeartbeats 400000 in
theorem appendLen_any (v : Value) (xs : List UInt8) (n : Nat) (w : World) (B : Nat) (hn : n < 1073741824) (hown : OwnB w B v xs) (hB : B ≤ w.heap.size) (hb : xs.length + 8 ≤ 140737488355328) :
    Calls Try.prog 31 #[v, .int .i64 (n : Int)] w fun e w' => ∃ v', e = .returned v' ∧ OwnB w' B v' (xs ++ lenBytes n) ∧ w.grownBy w' v.ownBlock ∧ Since w v.ownBlock v'.ownBlock := by
  by_cases h1 : n < 64
  · have hsz : lenSz (n : Int) = 1 := by unfold lenSz; rw [if_neg (by omega), if_pos (by omega)]
    have hl : lenBytes n = beBytes 1 n := by unfold lenBytes; rw [if_pos h1]
    have hor : bits .or .u64 0 (n : Int) = (n : Int) := by have := or_join 6 0 n rfl (by omega) (by omega) (by omega); simpa using this
    rw [hl]
    have HO := hid hor
    clear hor hl
    go_enter Try.func31, Try.ntmps31
    go_wp2_with fail
    refine (LenSize_any _ _).mono ?_
    rintro e w' ⟨rfl, rfl⟩
    rw [hsz]
    clear hsz
    go_wp2_with fail
    rw [HO.out]
    refine (appendNum_any v xs 1 n _ B (by omega) (by omega) hown hB hb).mono ?_
    rintro e w' ⟨v', rfl, ho, hg, hs⟩
    go_wp2
    go_ret
    exact ⟨v', rfl, ho, hg, hs⟩
  · by_cases h2 : n < 16384
    · have hsz : lenSz (n : Int) = 2 := by unfold lenSz; rw [if_neg (by omega), if_neg (by omega), if_pos (by omega)]
      have hl : lenBytes n = beBytes 2 (16384 + n) := by unfold lenBytes; rw [if_neg h1, if_pos h2]
      have hor : bits .or .u64 16384 (n : Int) = ((16384 + n : Nat) : Int) := or_join 14 16384 n rfl (by omega) (by omega) (by omega)
      rw [hl]
      have HO := hid hor
      clear hor hl
      go_enter Try.func31, Try.ntmps31
      go_wp2_with fail
      refine (LenSize_any _ _).mono ?_
      rintro e w' ⟨rfl, rfl⟩
      rw [hsz]
      clear hsz
      go_wp2_with fail
      rw [HO.out]
      refine (appendNum_any v xs 2 (16384 + n) _ B (by omega) (by omega) hown hB hb).mono ?_
      rintro e w' ⟨v', rfl, ho, hg, hs⟩
      go_wp2
      go_ret
      exact ⟨v', rfl, ho, hg, hs⟩
    · have hsz : lenSz (n : Int) = 4 := by unfold lenSz; rw [if_neg (by omega), if_neg (by omega), if_neg (by omega)]
      have hl : lenBytes n = beBytes 4 (2147483648 + n) := by unfold lenBytes; rw [if_neg h1, if_neg h2]
      have hor : bits .or .u64 2147483648 (n : Int) = ((2147483648 + n : Nat) : Int) := or_join 30 2147483648 n rfl (by omega) (by omega) (by omega)
      rw [hl]
      have HO := hid hor
      clear hor hl
      go_enter Try.func31, Try.ntmps31
      go_wp2_with fail
      refine (LenSize_any _ _).mono ?_
      rintro e w' ⟨rfl, rfl⟩
      rw [hsz]
      clear hsz
      go_wp2_with fail
      rw [HO.out]
      refine (appendNum_any v xs 4 (2147483648 + n) _ B (by omega) (by omega) hown hB hb).mono ?_
      rintro e w' ⟨v', rfl, ho, hg, hs⟩
      go_wp2
      go_ret
      exact ⟨v', rfl, ho, hg, hs⟩

set_option maxHeartbeats 400000 in
theorem appendVec_any (v : Value) (xs : List UInt8) (A : Option Addr) (ys : List UInt8) (c : Nat) (w : World) (B : Nat) (hn : ys.length < 1073741824) (hown : OwnB w B v xs) (hB : B ≤ w.heap.size) (hA : Lie w B A (bvs ys)) (hb : xs.length + ys.length + 8 ≤ 140737488355328) :
    Calls Try.prog 39 #[v, .slice A ys.length c] w fun e w' => ∃ v', e = .returned v' ∧ OwnB w' B v' (xs ++ vecBytes ys) ∧ w.grownBy w' v.ownBlock ∧ Since w v.ownBlock v'.ownBlock := by
  go_enter Try.func39, Try.ntmps39
  go_wp2_with fail
  refine (appendLen_any v xs ys.length _ B hn hown hB (by omega)).mono ?_
  rintro e w1 ⟨v1, rfl, ho1, hg1, hs1⟩
  have hA1 : Lie w1 B A (bvs ys) := hA.grown hg1 hB (own_lt hown)
  have hz := lenBytes_length ys.length
  have hz2 := lenSize_le ys.length
  have HZ := hid hz
  clear hz
  go_wp2_with (at_builtin; refine wpList_append_lie rfl _ _ 22 rfl B 5 (.int .u8 0) 1 Try.underlying22 infoU8 rfl rfl ho1 (bvs_length ys) rfl hA1 (bvs_one ys) ?d1 ?d2 ?d3 ?_)
  case d1 => rw [List.length_append, HZ.out]; unfold maxLen; omega
  case d2 => rw [List.length_append, HZ.out]; omega
  case d3 => exact Nat.le_trans hB hg1.size
  intro v2 w2 hown2 hg2 hat2
  go_wp2
  go_ret
  refine ⟨v2, rfl, ?_, grown_step hg1 hs1 hg2, since_step hs1 hg1.size (since_of_at hat2 (Nat.le_refl _))⟩
  simpa [OwnB, vecBytes, bvs_append, Nat.add_assoc] using hown2

theorem clone_any (A : Option Addr) (xs : List UInt8) (c : Nat) (w : World) (B : Nat) (hA : Lie w B A (bvs xs)) (hb : xs.length ≤ 140737488355328) :
    Calls Try.prog 30 #[.slice A xs.length c] w fun e w' => ∃ v, e = .returned v ∧ OwnB w' w.heap.size v xs ∧ w.grownBy w' none := by
  go_enter Try.func30, Try.ntmps30
  go_wp2_with (at_builtin; refine wpList_append_lie rfl _ _ 22 rfl w.heap.size 5 (.int .u8 0) 1 Try.underlying22 infoU8 rfl rfl (World.ownsRow_nil w w.heap.size 5 1) (bvs_length xs) rfl hA (bvs_one xs) ?d1 ?d2 ?d3 ?_)
  case d1 => unfold maxLen; omega
  case d2 => omega
  case d3 => exact Nat.le_refl _
  intro v2 w2 hown2 hg2 hat2
  go_wp2
  go_ret
  exact ⟨v2, rfl, by simpa [OwnB] using hown2, hg2⟩
end Go.Proofs.Ytkdpaaaleicopaa
