/-
  Package wire, the putting side, part 4: the calls themselves, where what is put can be.
-/
import Derived.Test.YtkdpaaaleicopaaWire3
import Derived.Deep.LoopGhost
namespace Go.Proofs.Ytkdpaaaleicopaa
open Go.RowKit
set_option linter.unusedVariables false
set_option linter.unusedSimpArgs false

/-- How many bytes the vectors of a list have. -/
def total : List (List UInt8) → Nat
  | [] => 0
  | x :: l => lenSize x.length + x.length + total l
theorem total_append (a b : List (List UInt8)) : total (a ++ b) = total a + total b := by
  induction a with
  | nil => simp [total]
  | cons x l ih => simp [total, ih]; omega
theorem total_take (l : List (List UInt8)) (k : Nat) (hk : k < l.length) : total (l.take (k + 1)) = total (l.take k) + (lenSize l[k].length + l[k].length) := by
  rw [List.take_succ_eq_append_getElem hk, total_append]; simp [total]
theorem total_le (l : List (List UInt8)) (k : Nat) : total (l.take k) ≤ total l := by
  have := total_append (l.take k) (l.drop k)
  rw [List.take_append_drop] at this
  omega
/-- The vectors of a list, one behind the other. -/
def joinVecs : List (List UInt8) → List UInt8
  | [] => []
  | x :: l => vecBytes x ++ joinVecs l
theorem joinVecs_length (l : List (List UInt8)) : (joinVecs l).length = total l := by
  induction l with
  | nil => rfl
  | cons x l ih => simp [joinVecs, total, vecBytes, lenBytes_length, ih]; omega
theorem joinVecs_append (a b : List (List UInt8)) : joinVecs (a ++ b) = joinVecs a ++ joinVecs b := by
  induction a with
  | nil => simp [joinVecs]
  | cons x l ih => simp [joinVecs, ih]
theorem joinVecs_take (l : List (List UInt8)) (k : Nat) (hk : k < l.length) : joinVecs (l.take (k + 1)) = joinVecs (l.take k) ++ vecBytes l[k] := by
  rw [List.take_succ_eq_append_getElem hk, joinVecs_append]; simp [joinVecs]

theorem lenSz_lenSize (n : Nat) (h : n < 1073741824) : lenSz (n : Int) = (lenSize n : Int) := by
  unfold lenSz lenSize
  rw [if_neg (by omega)]
  split
  · rw [if_pos (by omega)]; rfl
  · split
    · rw [if_neg (by omega), if_pos (by omega)]; rfl
    · rw [if_neg (by omega), if_neg (by omega)]; rfl

theorem PutNum_ok (A : Option Addr) (xs : List UInt8) (c size n : Nat) (w : World) (hs : size = 1 ∨ size = 2 ∨ size = 4 ∨ size = 8) (hn : n < 18446744073709551616) (hA : Lie w w.heap.size A (bvs xs)) (hb : xs.length + 8 ≤ 140737488355328) :
    Calls Try.prog 24 #[.slice A xs.length c, .int .i64 (size : Int), .int .u64 (n : Int)] w fun e w' => ∃ v, e = .returned v ∧ OwnB w' w.heap.size v (xs ++ beBytes size n) ∧ Below w.heap.size w w' := by
  go_enter Try.func24, Try.ntmps24
  go_wp2_with fail
  refine (isNumSize_yes _ _ (by omega)).mono ?_
  rintro e w' ⟨rfl, rfl⟩
  go_wp2_with fail
  refine (roomy_any A xs c size _ hA (by omega)).mono ?_
  rintro e w1 ⟨v1, rfl, ho, hbl⟩
  go_wp2_with fail
  refine (appendNum_any v1 xs size n w1 w.heap.size (by omega) hn ho hbl.size hb).mono ?_
  rintro e w2 ⟨v2, rfl, ho2, hg, hs2⟩
  go_wp2
  go_ret
  exact ⟨v2, rfl, ho2, hbl.grown hg hbl.size (own_lt ho)⟩

theorem PutLen_ok (A : Option Addr) (xs : List UInt8) (c n : Nat) (w : World) (hn : n < 1073741824) (hA : Lie w w.heap.size A (bvs xs)) (hb : xs.length + 8 ≤ 140737488355328) :
    Calls Try.prog 11 #[.slice A xs.length c, .int .i64 (n : Int)] w fun e w' => ∃ v, e = .returned v ∧ OwnB w' w.heap.size v (xs ++ lenBytes n) ∧ Below w.heap.size w w' := by
  have hl := lenSize_le n
  have hsz := lenSz_lenSize n hn
  have HS := hid hsz
  clear hsz
  generalize lenSize n = s at *
  have h0 : ((s : Int) == 0) = false := by simp; omega
  go_enter Try.func11, Try.ntmps11
  go_wp2_with fail
  refine (LenSize_any _ _).mono ?_
  rintro e w' ⟨rfl, rfl⟩
  rw [HS.out]
  go_wp2_with fail
  refine (roomy_any A xs c s _ hA (by omega)).mono ?_
  rintro e w1 ⟨v1, rfl, ho, hbl⟩
  go_wp2_with fail
  refine (appendLen_any v1 xs n w1 w.heap.size hn ho hbl.size hb).mono ?_
  rintro e w2 ⟨v2, rfl, ho2, hg, hs2⟩
  go_wp2
  go_ret
  exact ⟨v2, rfl, ho2, hbl.grown hg hbl.size (own_lt ho)⟩

theorem PutVec_ok (A : Option Addr) (xs : List UInt8) (c : Nat) (A' : Option Addr) (ys : List UInt8) (c' : Nat) (w : World) (hn : ys.length < 1073741824) (hA : Lie w w.heap.size A (bvs xs)) (hA' : Lie w w.heap.size A' (bvs ys)) (hb : xs.length + 1073741840 ≤ 140737488355328) :
    Calls Try.prog 25 #[.slice A xs.length c, .slice A' ys.length c'] w fun e w' => ∃ v, e = .returned v ∧ OwnB w' w.heap.size v (xs ++ vecBytes ys) ∧ Below w.heap.size w w' := by
  have hl := lenSize_le ys.length
  have hsz := lenSz_lenSize ys.length hn
  have HS := hid hsz
  clear hsz
  generalize lenSize ys.length = s at *
  have h0 : ((s : Int) == 0) = false := by simp; omega
  go_enter Try.func25, Try.ntmps25
  go_wp2_with fail
  refine (LenSize_any _ _).mono ?_
  rintro e w' ⟨rfl, rfl⟩
  rw [HS.out]
  go_wp2_with fail
  rw [show ((s : Int) + (ys.length : Int)) = ((s + ys.length : Nat) : Int) from by omega]
  refine (roomy_any A xs c (s + ys.length) _ hA (by omega)).mono ?_
  rintro e w1 ⟨v1, rfl, ho, hbl⟩
  go_wp2_with fail
  refine (appendVec_any v1 xs A' ys c' w1 w.heap.size hn ho hbl.size (hA'.below hbl) (by omega)).mono ?_
  rintro e w2 ⟨v2, rfl, ho2, hg, hs2⟩
  go_wp2
  go_ret
  exact ⟨v2, rfl, ho2, hbl.grown hg hbl.size (own_lt ho)⟩

set_option maxHeartbeats 800000 in
theorem listLen_ok (A : Option Addr) (ls : List (List UInt8)) (c : Nat) (w : World) (B : Nat) (hA : Rows2 w B A ls) (ht : total ls < 1073741824) (hlen : ls.length < 1073741824) :
    Calls Try.prog 40 #[.slice A ls.length c] w fun e w' => e = .returned (.tuple #[.int .i64 (total ls : Int), .bool true]) ∧ w = w' := by
  go_enter Try.func40, Try.ntmps40
  go_wp2
  go_loopg [4, 10] ls.length (fun g n i wr => ∃ k : Nat, k + g = ls.length ∧ i = .int .i64 (k : Int) ∧ n = .int .i64 (total (ls.take k) : Int) ∧ wr = w)
  case atStart => exact ⟨0, by omega, rfl, by simp [total], rfl⟩
  case round =>
    obtain ⟨k, hk, rfl, rfl, rfl⟩ := hrel
    have hk1 : k ≤ ls.length := by omega
    by_cases hlt : k < ls.length
    · obtain ⟨b, o, A', c', rfl, hb, hc, hA'⟩ := hA.at_ hlt
      have ht1 := total_take ls k hlt
      have ht2 := total_le ls (k + 1)
      have hl := lenSize_le ls[k].length
      have HS := hid (lenSz_lenSize ls[k].length (by omega))
      generalize hT : total (ls.take k) = T at *
      have HT := hid ht1
      generalize hx : ls[k] = x at *
      generalize hs : lenSize x.length = s at *
      have h0 : ((s : Int) == 0) = false := by simp; omega
      have hge : decide (1073741824 - (s : Int) - (T : Int) ≤ (x.length : Int)) = false := by simp; omega
      have hsT : s + T + x.length < 1073741824 := by omega
      have hidk : Hid (k + gk = ls.length) := hid hk
      clear ht1 ht2 hT hx hs hk
      go_wp2_with fail
      refine (LenSize_any _ _).mono ?_
      rintro e w' ⟨rfl, rfl⟩
      rw [HS.out]
      go_wp2
      have hidk1 := hidk.out
      go_roundg (gk - 1)
      case measure => omega
      case rel => exact ⟨k + 1, by omega, by go_num, by rw [HT.out]; go_num, rfl⟩
    · obtain rfl : k = ls.length := by omega
      rw [List.take_length]
      go_wp2
      go_ret2
      exact ⟨rfl, rfl⟩

set_option maxHeartbeats 800000 in
theorem PutList_ok (A : Option Addr) (xs : List UInt8) (c : Nat) (A' : Option Addr) (ls : List (List UInt8)) (c' : Nat) (w : World) (ht : total ls < 1073741824) (hlen : ls.length < 1073741824) (hA : Lie w w.heap.size A (bvs xs)) (hA' : Rows2 w w.heap.size A' ls) (hb : xs.length + 2147483648 ≤ 140737488355328) :
    Calls Try.prog 26 #[.slice A xs.length c, .slice A' ls.length c'] w fun e w' => ∃ v, e = .returned v ∧ OwnB w' w.heap.size v (xs ++ vecBytes (joinVecs ls)) ∧ Below w.heap.size w w' := by
  have hl := lenSize_le (total ls)
  have HS := hid (lenSz_lenSize (total ls) ht)
  have HL := hid (lenBytes_length (total ls))
  have HJ := hid (joinVecs_length ls)
  have HV : Hid (vecBytes (joinVecs ls) = lenBytes (total ls) ++ joinVecs ls) := hid (by unfold vecBytes; rw [joinVecs_length])
  go_enter Try.func26, Try.ntmps26
  go_wp2_with fail
  refine (listLen_ok A' ls c' _ _ hA' ht hlen).mono ?_
  rintro e w' ⟨rfl, rfl⟩
  go_wp2_with fail
  refine (LenSize_any _ _).mono ?_
  rintro e w' ⟨rfl, rfl⟩
  rw [HS.out]
  go_wp2_with fail
  rw [show ((lenSize (total ls) : Int) + (total ls : Int)) = ((lenSize (total ls) + total ls : Nat) : Int) from by omega]
  refine (roomy_any A xs c (lenSize (total ls) + total ls) _ hA (by omega)).mono ?_
  rintro e w1 ⟨v1, rfl, ho, hbl⟩
  go_wp2_with fail
  refine (appendLen_any v1 xs (total ls) w1 w.heap.size ht ho hbl.size (by omega)).mono ?_
  rintro e w2 ⟨v2, rfl, ho2, hg, hs2⟩
  have hbl2 : Below w.heap.size w w2 := hbl.grown hg hbl.size (own_lt ho)
  clear ho hg hs2 hbl
  go_wp2
  go_loopg [7, 29] ls.length (fun g u i wr => ∃ k : Nat, k + g = ls.length ∧ i = .int .i64 (k : Int) ∧ OwnB wr w.heap.size u (xs ++ lenBytes (total ls) ++ joinVecs (ls.take k)) ∧ Below w.heap.size w wr)
  case atStart => exact ⟨0, by omega, rfl, by simpa [joinVecs] using ho2, hbl2⟩
  case round =>
    obtain ⟨k, hk, rfl, hoR, hblR⟩ := hrel
    have hk1 : k ≤ ls.length := by omega
    by_cases hlt : k < ls.length
    · obtain ⟨b, o, A1, c1, rfl, hb1, hc, hA1⟩ := (hA'.below hblR).at_ hlt
      have ht1 := total_take ls k hlt
      have ht2 := total_le ls (k + 1)
      have hll := lenSize_le ls[k].length
      have hjl := joinVecs_length (ls.take k)
      have HT := hid (joinVecs_take ls k hlt)
      have hlen2 : (xs ++ lenBytes (total ls) ++ joinVecs (ls.take k)).length + ls[k].length + 8 ≤ 140737488355328 := by
        have := HL.out
        simp only [List.length_append]
        omega
      have hx2 : ls[k].length < 1073741824 := by omega
      have hidk : Hid (k + gk = ls.length) := hid hk
      clear ht1 ht2 hjl hk
      go_wp2_with fail
      refine (appendVec_any _ _ A1 ls[k] c1 wr w.heap.size hx2 hoR hblR.size hA1 hlen2).mono ?_
      rintro e w3 ⟨v3, rfl, ho3, hg3, hs3⟩
      have hbl3 : Below w.heap.size w w3 := hblR.grown hg3 hblR.size (own_lt hoR)
      have hO : OwnB w3 w.heap.size v3 (xs ++ lenBytes (total ls) ++ joinVecs (ls.take (k + 1))) := by
        rw [HT.out, ← List.append_assoc]
        exact ho3
      clear ho3 hg3 hs3 hoR hblR hc hA1
      go_wp2
      have hidk1 := hidk.out
      go_roundg (gk - 1)
      case measure => omega
      case rel => exact ⟨k + 1, by omega, by go_num, hO, hbl3⟩
    · obtain rfl : k = ls.length := by omega
      rw [List.take_length] at hoR
      go_wp2
      go_ret
      exact ⟨u7, rfl, by rw [HV.out, ← List.append_assoc]; exact hoR, hblR⟩
end Go.Proofs.Ytkdpaaaleicopaa
