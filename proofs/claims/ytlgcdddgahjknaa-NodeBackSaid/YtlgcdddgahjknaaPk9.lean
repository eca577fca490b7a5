/-
  Texts of this claim in one file: Wire3, Wire4, Wire5, Wire6, Wire7, Wire8.
-/
import Derived.Test.YtlgcdddgahjknaaPk21
import Derived.Deep.LoopGhost
import Derived.ScopeJumps
section
namespace Go.Proofs.Ytlgcdddgahjknaa
section
open Go.RowKit
set_option linter.unusedVariables false
set_option linter.unusedSimpArgs false
theorem isNumSize_yes (n : Int) (w : World) (h : n = 1 ∨ n = 2 ∨ n = 4 ∨ n = 8) :
    Calls Try.prog 50 #[.int .i64 n] w fun e w' => e = .returned (.bool true) ∧ w = w' := by
  rcases h with rfl | rfl | rfl | rfl
  all_goals
    go_enter Try.func50, Try.ntmps50
    go_wp2
    go_ret
    exact ⟨rfl, rfl⟩
def lenSz (n : Int) : Int := if n < 0 ∨ 1073741824 ≤ n then 0 else if n < 64 then 1 else if n < 16384 then 2 else 4
theorem LenSize_any (n : Int) (w : World) :
    Calls Try.prog 53 #[.int .i64 n] w fun e w' => e = .returned (.int .i64 (lenSz n)) ∧ w = w' := by
  unfold lenSz
  by_cases h0 : n < 0
  · go_enter Try.func53, Try.ntmps53
    go_wp2
    go_ret
    simp [h0]
  · by_cases h1 : 1073741824 ≤ n
    · go_enter Try.func53, Try.ntmps53
      go_wp2
      go_ret
      simp [h1]
    · by_cases h2 : n < 64
      · go_enter Try.func53, Try.ntmps53
        go_wp2
        go_ret
        simp [h0, h1, h2]
      · by_cases h3 : n < 16384
        all_goals
          go_enter Try.func53, Try.ntmps53
          go_wp2
          go_ret
          simp [h0, h1, h2, h3]
theorem roomy_any (A : Option Addr) (xs : List UInt8) (c m : Nat) (w : World) (hA : Lie w w.heap.size A (bvs xs)) (hb : xs.length + m ≤ 140737488355328) :
    Calls Try.prog 52 #[.slice A xs.length c, .int .i64 (m : Int)] w fun e w' => ∃ v, e = .returned v ∧ OwnB w' w.heap.size v xs ∧ Below w.heap.size w w' := by
  obtain ⟨i0, hi, hz0, hz1, hz2⟩ := info_parts infoU8
  go_enter Try.func52, Try.ntmps52
  go_wp2_with (at_make; refine wpList_make_own _ rfl _ _ 22 rfl w.heap.size 5 i0 (.int .u8 0) 1 Try.underlying22 hi hz0 hz1 _ _ _ (xs.length + m) rfl rfl ?c1 ?c2 ?c3 (Nat.le_refl _) ?_)
  case c1 => simp
  case c2 => rw [hz2]; omega
  case c3 => unfold maxLen; omega
  intro w1 hown hg
  have hA1 : Lie w1 w.heap.size A (bvs xs) := hA.grown hg (Nat.le_refl _) (fun _ h => by cases h)
  go_wp2_with (at_builtin; refine wpList_append_lie rfl _ _ 22 rfl w.heap.size 5 (.int .u8 0) 1 Try.underlying22 infoU8 rfl rfl hown (bvs_length xs) rfl hA1 (bvs_one xs) ?d1 ?d2 ?d3 ?_)
  case d1 => unfold maxLen; omega
  case d2 => omega
  case d3 => exact hg.size
  intro v2 w2 hown2 hg2 _
  go_wp2
  go_ret
  exact ⟨v2, rfl, by simpa [OwnB] using hown2, ((Below.refl _ _).grown hg (Nat.le_refl _) (fun _ h => by cases h)).grown hg2 hg.size (own_lt hown)⟩
end
section
open Go.RowKit
set_option linter.unusedVariables false
set_option linter.unusedSimpArgs false
set_option maxHeartbeats 400000 in
theorem appendNum_any (v : Value) (xs : List UInt8) (size n : Nat) (w : World) (B : Nat) (hs : size ≤ 8) (hn : n < 18446744073709551616) (hown : OwnB w B v xs) (hB : B ≤ w.heap.size) (hb : xs.length + 8 ≤ 140737488355328) :
    Calls Try.prog 51 #[v, .int .i64 (size : Int), .int .u64 (n : Int)] w fun e w' => ∃ v', e = .returned v' ∧ OwnB w' B v' (xs ++ beBytes size n) ∧ w.grownBy w' v.ownBlock ∧ Since w v.ownBlock v'.ownBlock := by
  go_enter Try.func51, Try.ntmps51
  go_wp2
  go_loopw [0, 7] (fun u i wr => ∃ (k : Nat) (pre : List UInt8), k ≤ size ∧ i = .int .i64 ((k : Int) - 1) ∧ pre ++ beBytes k n = beBytes size n ∧ OwnB wr B u (xs ++ pre) ∧ w.grownBy wr v.ownBlock ∧ Since w v.ownBlock u.ownBlock)
    (fun _ i _ => (intOf i + 1).toNat)
  case atStart => exact ⟨size, [], Nat.le_refl _, rfl, rfl, by simpa using hown, World.grownBy.refl _ _, .inl rfl⟩
  case round =>
    obtain ⟨k, pre, hk, rfl, hpre, hown1, hg1, hat1⟩ := hrel
    have HP := hid hpre
    clear hpre
    by_cases h0 : k = 0
    · subst h0
      go_wp2
      go_ret
      refine ⟨u0, rfl, ?_, hg1, hat1⟩
      have := HP.out
      simp only [beBytes, List.append_nil] at this
      rw [← this]
      exact hown1
    · have hk1 : (1 : Int) ≤ (k : Int) := by omega
      have hk8 : (k : Int) ≤ 8 := by omega
      have hl : (xs ++ pre).length + 1 ≤ 140737488355328 := by
        have := congrArg List.length HP.out
        simp at this ⊢
        omega
      go_wp2_with (at_builtin; refine wpList_append_lie rfl _ _ 22 rfl B 5 (.int .u8 0) 1 Try.underlying22 infoU8 rfl rfl (World.ownsRow.alloc hown1 _) rfl rfl (Lie.new1 _ _ _) ?d0 ?d1 ?d2 ?d3 ?_)
      case d0 => intro u hu; simp at hu; subst hu; rfl
      case d1 => rw [List.length_singleton]; unfold maxLen; omega
      case d2 => rw [List.length_singleton]; omega
      case d3 => have := hg1.size; simp; omega
      intro v2 w2 hown2 hg2 hat2
      obtain ⟨j, rfl⟩ : ∃ j, k = j + 1 := ⟨k - 1, by omega⟩
      have hO : OwnB w2 B v2 (xs ++ (pre ++ [UInt8.ofNat (n / 256 ^ j)])) := by
        rw [← List.append_assoc]
        exact own_snoc hown2 (by simp) (by rw [Nat.add_sub_cancel]; exact shr_val n j)
      have hG : w.grownBy w2 v.ownBlock := grown_step (grown_alloc hg1 _) hat1 hg2
      have hS : Since w v.ownBlock v2.ownBlock := since_step hat1 hg1.size (since_of_at hat2 (by have := hg1.size; simp))
      have HN : Hid ((pre ++ [UInt8.ofNat (n / 256 ^ j)]) ++ beBytes j n = beBytes size n) := hid (by rw [← HP.out]; simp [beBytes])
      clear hown2 hg2 hat2 hown1 hg1 hat1 HP
      go_wp2
      go_roundw
      case rel => exact ⟨j, _, by omega, by go_num, HN.out, hO, hG, hS⟩
      case measure => simp [intOf]
end
section
open Go.RowKit
set_option linter.unusedVariables false
set_option linter.unusedSimpArgs false
/-- The bytes of a length. -/
def lenBytes (n : Nat) : List UInt8 := if n < 64 then beBytes 1 n else if n < 16384 then beBytes 2 (16384 + n) else beBytes 4 (2147483648 + n)
/-- The bytes of a vector. -/
def vecBytes (v : List UInt8) : List UInt8 := lenBytes v.length ++ v
def lenSize (n : Nat) : Nat := if n < 64 then 1 else if n < 16384 then 2 else 4
theorem lenBytes_length (n : Nat) : (lenBytes n).length = lenSize n := by
  unfold lenBytes lenSize
  split
  · simp
  · split <;> simp
theorem lenSize_le (n : Nat) : 1 ≤ lenSize n ∧ lenSize n ≤ 4 := by
  unfold lenSize
  split
  · omega
  · split <;> omega
set_option maxHeartbeats 400000 in
theorem appendLen_any (v : Value) (xs : List UInt8) (n : Nat) (w : World) (B : Nat) (hn : n < 1073741824) (hown : OwnB w B v xs) (hB : B ≤ w.heap.size) (hb : xs.length + 8 ≤ 140737488355328) :
    Calls Try.prog 68 #[v, .int .i64 (n : Int)] w fun e w' => ∃ v', e = .returned v' ∧ OwnB w' B v' (xs ++ lenBytes n) ∧ w.grownBy w' v.ownBlock ∧ Since w v.ownBlock v'.ownBlock := by
  by_cases h1 : n < 64
  · have hsz : lenSz (n : Int) = 1 := by unfold lenSz; rw [if_neg (by omega), if_pos (by omega)]
    have hl : lenBytes n = beBytes 1 n := by unfold lenBytes; rw [if_pos h1]
    have hor : bits .or .u64 0 (n : Int) = (n : Int) := by have := or_join 6 0 n rfl (by omega) (by omega) (by omega); simpa using this
    rw [hl]
    have HO := hid hor
    clear hor hl
    go_enter Try.func68, Try.ntmps68
    go_wp2_with fail
    refine (LenSize_any _ _).mono ?_
    rintro e w' ⟨rfl, rfl⟩
    rw [hsz]
    clear hsz
    go_wp2_with fail
    rw [HO.out]
    refine (appendNum_any v xs 1 n _ B (by omega) (by omega) hown hB hb).mono ?_
    rintro e w' ⟨v', rfl, ho, hg, hs⟩
    go_wp2
    go_ret
    exact ⟨v', rfl, ho, hg, hs⟩
  · by_cases h2 : n < 16384
    · have hsz : lenSz (n : Int) = 2 := by unfold lenSz; rw [if_neg (by omega), if_neg (by omega), if_pos (by omega)]
      have hl : lenBytes n = beBytes 2 (16384 + n) := by unfold lenBytes; rw [if_neg h1, if_pos h2]
      have hor : bits .or .u64 16384 (n : Int) = ((16384 + n : Nat) : Int) := or_join 14 16384 n rfl (by omega) (by omega) (by omega)
      rw [hl]
      have HO := hid hor
      clear hor hl
      go_enter Try.func68, Try.ntmps68
      go_wp2_with fail
      refine (LenSize_any _ _).mono ?_
      rintro e w' ⟨rfl, rfl⟩
      rw [hsz]
      clear hsz
      go_wp2_with fail
      rw [HO.out]
      refine (appendNum_any v xs 2 (16384 + n) _ B (by omega) (by omega) hown hB hb).mono ?_
      rintro e w' ⟨v', rfl, ho, hg, hs⟩
      go_wp2
      go_ret
      exact ⟨v', rfl, ho, hg, hs⟩
    · have hsz : lenSz (n : Int) = 4 := by unfold lenSz; rw [if_neg (by omega), if_neg (by omega), if_neg (by omega)]
      have hl : lenBytes n = beBytes 4 (2147483648 + n) := by unfold lenBytes; rw [if_neg h1, if_neg h2]
      have hor : bits .or .u64 2147483648 (n : Int) = ((2147483648 + n : Nat) : Int) := or_join 30 2147483648 n rfl (by omega) (by omega) (by omega)
      rw [hl]
      have HO := hid hor
      clear hor hl
      go_enter Try.func68, Try.ntmps68
      go_wp2_with fail
      refine (LenSize_any _ _).mono ?_
      rintro e w' ⟨rfl, rfl⟩
      rw [hsz]
      clear hsz
      go_wp2_with fail
      rw [HO.out]
      refine (appendNum_any v xs 4 (2147483648 + n) _ B (by omega) (by omega) hown hB hb).mono ?_
      rintro e w' ⟨v', rfl, ho, hg, hs⟩
      go_wp2
      go_ret
      exact ⟨v', rfl, ho, hg, hs⟩
set_option maxHeartbeats 400000 in
theorem appendVec_any (v : Value) (xs : List UInt8) (A : Option Addr) (ys : List UInt8) (c : Nat) (w : World) (B : Nat) (hn : ys.length < 1073741824) (hown : OwnB w B v xs) (hB : B ≤ w.heap.size) (hA : Lie w B A (bvs ys)) (hb : xs.length + ys.length + 8 ≤ 140737488355328) :
    Calls Try.prog 54 #[v, .slice A ys.length c] w fun e w' => ∃ v', e = .returned v' ∧ OwnB w' B v' (xs ++ vecBytes ys) ∧ w.grownBy w' v.ownBlock ∧ Since w v.ownBlock v'.ownBlock := by
  go_enter Try.func54, Try.ntmps54
  go_wp2_with fail
  refine (appendLen_any v xs ys.length _ B hn hown hB (by omega)).mono ?_
  rintro e w1 ⟨v1, rfl, ho1, hg1, hs1⟩
  have hA1 : Lie w1 B A (bvs ys) := hA.grown hg1 hB (own_lt hown)
  have hz := lenBytes_length ys.length
  have hz2 := lenSize_le ys.length
  have HZ := hid hz
  clear hz
  go_wp2_with (at_builtin; refine wpList_append_lie rfl _ _ 22 rfl B 5 (.int .u8 0) 1 Try.underlying22 infoU8 rfl rfl ho1 (bvs_length ys) rfl hA1 (bvs_one ys) ?d1 ?d2 ?d3 ?_)
  case d1 => rw [List.length_append, HZ.out]; unfold maxLen; omega
  case d2 => rw [List.length_append, HZ.out]; omega
  case d3 => exact Nat.le_trans hB hg1.size
  intro v2 w2 hown2 hg2 hat2
  go_wp2
  go_ret
  refine ⟨v2, rfl, ?_, grown_step hg1 hs1 hg2, since_step hs1 hg1.size (since_of_at hat2 (Nat.le_refl _))⟩
  simpa [OwnB, vecBytes, bvs_append, Nat.add_assoc] using hown2
theorem clone_any (A : Option Addr) (xs : List UInt8) (c : Nat) (w : World) (B : Nat) (hA : Lie w B A (bvs xs)) (hb : xs.length ≤ 140737488355328) :
    Calls Try.prog 42 #[.slice A xs.length c] w fun e w' => ∃ v, e = .returned v ∧ OwnB w' w.heap.size v xs ∧ w.grownBy w' none := by
  go_enter Try.func42, Try.ntmps42
  go_wp2_with (at_builtin; refine wpList_append_lie rfl _ _ 22 rfl w.heap.size 5 (.int .u8 0) 1 Try.underlying22 infoU8 rfl rfl (World.ownsRow_nil w w.heap.size 5 1) (bvs_length xs) rfl hA (bvs_one xs) ?d1 ?d2 ?d3 ?_)
  case d1 => unfold maxLen; omega
  case d2 => omega
  case d3 => exact Nat.le_refl _
  intro v2 w2 hown2 hg2 hat2
  go_wp2
  go_ret
  exact ⟨v2, rfl, by simpa [OwnB] using hown2, hg2⟩
end
end Go.Proofs.Ytlgcdddgahjknaa
end
section
namespace Go.Proofs.Ytlgcdddgahjknaa
open Go.RowKit
set_option linter.unusedVariables false
set_option linter.unusedSimpArgs false
theorem lenSz_lenSize (n : Nat) (h : n < 1073741824) : lenSz (n : Int) = (lenSize n : Int) := by
  unfold lenSz lenSize
  rw [if_neg (by omega)]
  split
  · rw [if_pos (by omega)]; rfl
  · split
    · rw [if_neg (by omega), if_pos (by omega)]; rfl
    · rw [if_neg (by omega), if_neg (by omega)]; rfl
theorem PutNum_ok (A : Option Addr) (xs : List UInt8) (c size n : Nat) (w : World) (hs : size = 1 ∨ size = 2 ∨ size = 4 ∨ size = 8) (hn : n < 18446744073709551616) (hA : Lie w w.heap.size A (bvs xs)) (hb : xs.length + 8 ≤ 140737488355328) :
    Calls Try.prog 29 #[.slice A xs.length c, .int .i64 (size : Int), .int .u64 (n : Int)] w fun e w' => ∃ v, e = .returned v ∧ OwnB w' w.heap.size v (xs ++ beBytes size n) ∧ Below w.heap.size w w' := by
  go_enter Try.func29, Try.ntmps29
  go_wp2_with fail
  refine (isNumSize_yes _ _ (by omega)).mono ?_
  rintro e w' ⟨rfl, rfl⟩
  go_wp2_with fail
  refine (roomy_any A xs c size _ hA (by omega)).mono ?_
  rintro e w1 ⟨v1, rfl, ho, hbl⟩
  go_wp2_with fail
  refine (appendNum_any v1 xs size n w1 w.heap.size (by omega) hn ho hbl.size hb).mono ?_
  rintro e w2 ⟨v2, rfl, ho2, hg, hs2⟩
  go_wp2
  go_ret
  exact ⟨v2, rfl, ho2, hbl.grown hg hbl.size (own_lt ho)⟩
theorem PutVec_ok (A : Option Addr) (xs : List UInt8) (c : Nat) (A' : Option Addr) (ys : List UInt8) (c' : Nat) (w : World) (hn : ys.length < 1073741824) (hA : Lie w w.heap.size A (bvs xs)) (hA' : Lie w w.heap.size A' (bvs ys)) (hb : xs.length + 1073741840 ≤ 140737488355328) :
    Calls Try.prog 30 #[.slice A xs.length c, .slice A' ys.length c'] w fun e w' => ∃ v, e = .returned v ∧ OwnB w' w.heap.size v (xs ++ vecBytes ys) ∧ Below w.heap.size w w' := by
  have hl := lenSize_le ys.length
  have hsz := lenSz_lenSize ys.length hn
  have HS := hid hsz
  clear hsz
  generalize lenSize ys.length = s at *
  have h0 : ((s : Int) == 0) = false := by simp; omega
  go_enter Try.func30, Try.ntmps30
  go_wp2_with fail
  refine (LenSize_any _ _).mono ?_
  rintro e w' ⟨rfl, rfl⟩
  rw [HS.out]
  go_wp2_with fail
  rw [show ((s : Int) + (ys.length : Int)) = ((s + ys.length : Nat) : Int) from by omega]
  refine (roomy_any A xs c (s + ys.length) _ hA (by omega)).mono ?_
  rintro e w1 ⟨v1, rfl, ho, hbl⟩
  go_wp2_with fail
  refine (appendVec_any v1 xs A' ys c' w1 w.heap.size hn ho hbl.size (hA'.below hbl) (by omega)).mono ?_
  rintro e w2 ⟨v2, rfl, ho2, hg, hs2⟩
  go_wp2
  go_ret
  exact ⟨v2, rfl, ho2, hbl.grown hg hbl.size (own_lt ho)⟩
end Go.Proofs.Ytlgcdddgahjknaa
end
section
namespace Go.Proofs.Ytlgcdddgahjknaa
open Go.RowKit
set_option linter.unusedVariables false
set_option linter.unusedSimpArgs false
set_option maxRecDepth 100000 in
theorem joined_any (n : Nat) (A : Option Addr) (xs : List UInt8) (c : Nat) (w : World) (B : Nat) (hA : Lie w B A (bvs xs)) (hn : (n + 1) * 256 ^ xs.length ≤ 18446744073709551616) (hl : xs.length ≤ 8) :
    Calls Try.prog 71 #[.int .u64 (n : Int), .slice A xs.length c] w fun e w' => e = .returned (.int .u64 (beNum n xs : Int)) ∧ w = w' := by
  have HN := hid hn
  clear hn
  go_enter Try.func71, Try.ntmps71
  go_wp2
  go_loopg [0, 9] xs.length (fun g u i wr => ∃ k : Nat, k + g = xs.length ∧ i = .int .i64 (k : Int) ∧ u = .int .u64 (beNum n (xs.take k) : Int) ∧ wr = w)
  case atStart => exact ⟨0, by omega, rfl, by simp [beNum], rfl⟩
  case round =>
    obtain ⟨k, hk, rfl, rfl, rfl⟩ := hrel
    by_cases hlt : k < xs.length
    · obtain ⟨b, o, rfl, hb, hc⟩ := hA.byte hlt
      have HS := hid (beNum_snoc n (xs.take k) xs[k])
      have HT := hid (List.take_succ_eq_append_getElem hlt)
      have hx := xs[k].toNat_lt
      have hT : beNum n (xs.take k) * 256 + 256 ≤ 18446744073709551616 := by
        have h1 := beNum_lt n (xs.take k)
        rw [List.length_take, Nat.min_eq_left (by omega)] at h1
        have h2 : (n + 1) * 256 ^ (k + 1) ≤ (n + 1) * 256 ^ xs.length := Nat.mul_le_mul_left _ (Nat.pow_le_pow_right (by decide) (by omega))
        have h3 := HN.out
        rw [Nat.pow_succ, ← Nat.mul_assoc] at h2
        omega
      have hidk := hid hk
      clear hk
      have HO := hid (or_byte (beNum n (xs.take k)) xs[k].toNat (by omega) hT)
      have hw := wrap_byte (beNum n (xs.take k)) hT
      clear hT
      go_wp2
      have hk := hidk.out
      go_roundg (gk - 1)
      case measure => omega
      case rel => exact ⟨k + 1, by omega, by go_num, by rw [HT.out, HS.out, HO.out], rfl⟩
    · obtain rfl : k = xs.length := by omega
      rw [List.take_length]
      go_wp2
      go_ret
      exact ⟨rfl, rfl⟩
theorem lengthOf_nil (A : Option Addr) (c : Nat) (w : World) :
    Calls Try.prog 75 #[.slice A 0 c] w fun e w' => e = .returned (.tuple #[.int .i64 0, .int .i64 0, .int .u8 4]) ∧ w = w' := by
  go_enter Try.func75, Try.ntmps75
  go_wp2
  go_step3
  go_wp2
  try rw [Exit.noGoto_ret]
  go_ret3
  exact ⟨rfl, rfl⟩
theorem lengthOf_one (b o : Nat) (x n : Nat) (c : Nat) (w : World) (hc : w.cell? ⟨b, o, none⟩ = some (.int .u8 (x : Int))) (hn : 0 < n) (hx : x < 64) (h63 : n ≤ 9223372036854775807) :
    Calls Try.prog 75 #[.slice (some ⟨b, o, none⟩) n c] w fun e w' => e = .returned (.tuple #[.int .i64 (x : Int), .int .i64 1, .int .u8 0]) ∧ w = w' := by
  have h1 : (x : Int) / 64 = 0 := by omega
  have h2 : (x : Int) % 64 = x := by omega
  have hn0 : ((n : Int) == 0) = false := by simp; omega
  have HS : Hid (lenSz (x : Int) = 1) := hid (by unfold lenSz; rw [if_neg (by omega), if_pos (by omega)])
  go_enter Try.func75, Try.ntmps75
  go_wp2
  go_step3
  go_wp2
  go_step3
  go_wp2_with fail
  refine (LenSize_any _ _).mono ?_
  rintro e w' ⟨rfl, rfl⟩
  rw [HS.out]
  go_wp2
  try rw [Exit.noGoto_ret]
  go_ret3
  exact ⟨rfl, rfl⟩
theorem lengthOf_three (b o : Nat) (x n : Nat) (c : Nat) (w : World) (hc : w.cell? ⟨b, o, none⟩ = some (.int .u8 (x : Int))) (hn : 0 < n) (hx : 192 ≤ x) (hx2 : x < 256) (h63 : n ≤ 9223372036854775807) :
    Calls Try.prog 75 #[.slice (some ⟨b, o, none⟩) n c] w fun e w' => e = .returned (.tuple #[.int .i64 0, .int .i64 0, .int .u8 3]) ∧ w = w' := by
  have h1 : (x : Int) / 64 = 3 := by omega
  have hn0 : ((n : Int) == 0) = false := by simp; omega
  go_enter Try.func75, Try.ntmps75
  go_wp2
  go_step3
  go_wp2
  try rw [Exit.noGoto_ret]
  go_ret3
  exact ⟨rfl, rfl⟩
theorem lengthOf_short (b o : Nat) (x n : Nat) (c : Nat) (w : World) (hc : w.cell? ⟨b, o, none⟩ = some (.int .u8 (x : Int))) (hn : 0 < n) (hx : (64 ≤ x ∧ x < 128 ∧ n < 2) ∨ (128 ≤ x ∧ x < 192 ∧ n < 4)) :
    Calls Try.prog 75 #[.slice (some ⟨b, o, none⟩) n c] w fun e w' => e = .returned (.tuple #[.int .i64 0, .int .i64 0, .int .u8 4]) ∧ w = w' := by
  have hn0 : ((n : Int) == 0) = false := by simp; omega
  rcases hx with ⟨ha, hb, hl⟩ | ⟨ha, hb, hl⟩
  · have h1 : (x : Int) / 64 = 1 := by omega
    go_enter Try.func75, Try.ntmps75
    go_wp2
    go_step3
    go_wp2
    try rw [Exit.noGoto_ret]
    go_ret3
    exact ⟨rfl, rfl⟩
  · have h1 : (x : Int) / 64 = 2 := by omega
    go_enter Try.func75, Try.ntmps75
    go_wp2
    go_step3
    go_wp2
    try rw [Exit.noGoto_ret]
    go_ret3
    exact ⟨rfl, rfl⟩
/-- The frame at the label. -/
def AtWider (b o n c s wh r : Nat) (a' : Act) : Prop :=
  ∃ (u1 u2 u4 u5 u8 u9 u10 u11 u12 u13 u14 u15 u16 u17 u18 u19 u20 u21 u22 u23 u24 u25 u26 u27 u28 u29 u30 u31 u32 u33 u34 u35 u36 u37 u38 u39 u40 u41 u42 u43 u44 u45 u46 u47 : Value), a' = { tmps := #[.slice (some ⟨b, o, none⟩) n c, u1, u2, .int .i64 (s : Int), u4, u5, .int .i64 (wh : Int), .int .u64 (r : Int), u8, u9, u10, u11, u12, u13, u14, u15, u16, u17, u18, u19, u20, u21, u22, u23, u24, u25, u26, u27, u28, u29, u30, u31, u32, u33, u34, u35, u36, u37, u38, u39, u40, u41, u42, u43, u44, u45, u46, u47], defers := [] }
/-- What a length of W bytes with the value V reads as. -/
def lenRes (V W : Nat) : Value := if lenSize V = W then .tuple #[.int .i64 (V : Int), .int .i64 (W : Int), .int .u8 0] else .tuple #[.int .i64 0, .int .i64 0, .int .u8 3]
theorem joined_m (n : Nat) (A : Option Addr) (xs : List UInt8) (m c : Nat) (w : World) (B : Nat) (hA : Lie w B A (bvs xs)) (hm : xs.length = m) (hn : (n + 1) * 256 ^ m ≤ 18446744073709551616) (hl : m ≤ 8) :
    Calls Try.prog 71 #[.int .u64 (n : Int), .slice A m c] w fun e w' => e = .returned (.int .u64 (beNum n xs : Int)) ∧ w = w' := by
  subst hm
  exact joined_any n A xs c w B hA hn hl
set_option maxRecDepth 100000 in
set_option maxHeartbeats 1600000 in
theorem lengthOf_two (b o : Nat) (x : UInt8) (xs : List UInt8) (c : Nat) (w : World) (B : Nat) (hA : Lie w B (some ⟨b, o, none⟩) (bvs (x :: xs))) (hx1 : 64 ≤ x.toNat) (hx2 : x.toNat < 128) (hn : 1 ≤ xs.length) (hcap : xs.length + 1 ≤ c) (h63 : c ≤ 9223372036854775807) :
    Calls Try.prog 75 #[.slice (some ⟨b, o, none⟩) (x :: xs).length c] w fun e w' => e = .returned (lenRes (beNum (x.toNat % 64) (xs.take 1)) 2) ∧ w = w' := by
  obtain ⟨b', o', hA', _, hc⟩ := hA.byte (k := 0) (by simp)
  simp only [Option.some.injEq, Addr.mk.injEq, and_true] at hA'
  obtain ⟨rfl, rfl⟩ := hA'
  simp only [Nat.add_zero, List.getElem_cons_zero] at hc
  have h1 : (x.toNat : Int) / 64 = 1 := by omega
  have hn0 : ((xs.length : Int) + 1 == 0) = false := by simp; omega
  have hB1 : Lie w B (some ⟨b, o + 1, none⟩) (bvs (xs.take 1)) := by
    have h := (hA.drop 1).take 1
    simpa [bvs, List.map_take] using h
  have hV := beNum_lt (x.toNat % 64) (xs.take 1)
  rw [List.length_take, Nat.min_eq_left hn] at hV
  have hVb : beNum (x.toNat % 64) (xs.take 1) < 1073741824 := by
    have : (x.toNat % 64 + 1) * 256 ^ 1 ≤ 1073741824 := by
      have : x.toNat % 64 < 64 := Nat.mod_lt _ (by decide)
      have h3 : (x.toNat % 64 + 1) * 256 ^ 1 ≤ 64 * 256 ^ 1 := Nat.mul_le_mul_right _ (by omega)
      exact Nat.le_trans h3 (by decide)
    omega
  clear hV
  have HL1 : Hid ((xs.take 1).length = 1) := hid (by simp; omega)
  have HZ := hid (lenSz_lenSize _ hVb)
  have HM : Hid (((x.toNat : Int) % 64) = ((x.toNat % 64 : Nat) : Int)) := hid (by omega)
  rw [List.length_cons]
  go_enter Try.func75, Try.ntmps75
  go_wp2
  refine wp_scope_jumps 0 (fun a' w' => w' = w ∧ AtWider b o (xs.length + 1) c 2 2 (beNum (x.toNat % 64) (xs.take 1)) a') (fun a' _ => 0) rfl ?_ ?_
  · go_wp2
    go_step3
    go_wp2_with fail
    rw [HM.out]
    refine (joined_m _ _ _ 1 _ _ B hB1 HL1.out (by omega) (by omega)).mono ?_
    rintro e w' ⟨rfl, rfl⟩
    go_wp2
    go_step3
    refine ⟨rfl, rfl, ?_⟩
    unfold AtWider
    repeat apply Exists.intro
    rfl
  · rintro a' w' ⟨rfl, hAt⟩
    unfold AtWider at hAt
    obtain ⟨u1, u2, u4, u5, u8, u9, u10, u11, u12, u13, u14, u15, u16, u17, u18, u19, u20, u21, u22, u23, u24, u25, u26, u27, u28, u29, u30, u31, u32, u33, u34, u35, u36, u37, u38, u39, u40, u41, u42, u43, u44, u45, u46, u47, rfl⟩ := hAt
    go_wp2_with fail
    refine (LenSize_any _ _).mono ?_
    rintro e w' ⟨rfl, rfl⟩
    rw [HZ.out]
    by_cases hs : lenSize (beNum (x.toNat % 64) (xs.take 1)) = 2
    · rw [hs]
      have HS := hid hs
      clear hs
      go_wp2
      try simp only [Exit.jump]
      go_ret3
      refine ⟨?_, rfl⟩
      rw [lenRes, if_pos HS.out]
      rfl
    · have hs2 : ((lenSize (beNum (x.toNat % 64) (xs.take 1)) : Int) != 2) = true := by rw [bne_iff_ne]; omega
      have HS := hid hs
      clear hs
      go_wp2
      try simp only [Exit.jump]
      go_ret3
      refine ⟨?_, rfl⟩
      rw [lenRes, if_neg HS.out]
      rfl
set_option maxRecDepth 100000 in
set_option maxHeartbeats 1600000 in
theorem lengthOf_four (b o : Nat) (x : UInt8) (xs : List UInt8) (c : Nat) (w : World) (B : Nat) (hA : Lie w B (some ⟨b, o, none⟩) (bvs (x :: xs))) (hx1 : 128 ≤ x.toNat) (hx2 : x.toNat < 192) (hn : 3 ≤ xs.length) (hcap : xs.length + 1 ≤ c) (h63 : c ≤ 9223372036854775807) :
    Calls Try.prog 75 #[.slice (some ⟨b, o, none⟩) (x :: xs).length c] w fun e w' => e = .returned (lenRes (beNum (x.toNat % 64) (xs.take 3)) 4) ∧ w = w' := by
  obtain ⟨b', o', hA', _, hc⟩ := hA.byte (k := 0) (by simp)
  simp only [Option.some.injEq, Addr.mk.injEq, and_true] at hA'
  obtain ⟨rfl, rfl⟩ := hA'
  simp only [Nat.add_zero, List.getElem_cons_zero] at hc
  have h1 : (x.toNat : Int) / 64 = 2 := by omega
  have hn0 : ((xs.length : Int) + 1 == 0) = false := by simp; omega
  have hB1 : Lie w B (some ⟨b, o + 1, none⟩) (bvs (xs.take 1)) := by
    have h := (hA.drop 1).take 1
    simpa [bvs, List.map_take] using h
  have hB2 : Lie w B (some ⟨b, o + 2, none⟩) (bvs ((xs.drop 1).take 2)) := by
    have h := (hA.drop 2).take 2
    simpa [bvs, List.map_take, List.map_drop] using h
  have hE : beNum (beNum (x.toNat % 64) (xs.take 1)) ((xs.drop 1).take 2) = beNum (x.toNat % 64) (xs.take 3) := by
    have h : xs.take 3 = xs.take 1 ++ (xs.drop 1).take 2 := by rw [← List.take_add]
    rw [h]; simp [beNum]
  have hL2 : ((xs.drop 1).take 2).length = 2 := by simp; omega
  have hV1 := beNum_lt (x.toNat % 64) (xs.take 1)
  rw [List.length_take, Nat.min_eq_left (by omega)] at hV1
  have hV1b : beNum (x.toNat % 64) (xs.take 1) < 16384 := by
    have : (x.toNat % 64 + 1) * 256 ^ 1 ≤ 16384 := by omega
    omega
  clear hV1
  have HE := hid hE
  have HL2 := hid hL2
  clear hE hL2
  have hV := beNum_lt (x.toNat % 64) (xs.take 3)
  rw [List.length_take, Nat.min_eq_left hn] at hV
  have hVb : beNum (x.toNat % 64) (xs.take 3) < 1073741824 := by
    have : (x.toNat % 64 + 1) * 256 ^ 3 ≤ 1073741824 := by
      have : x.toNat % 64 < 64 := Nat.mod_lt _ (by decide)
      have h3 : (x.toNat % 64 + 1) * 256 ^ 3 ≤ 64 * 256 ^ 3 := Nat.mul_le_mul_right _ (by omega)
      exact Nat.le_trans h3 (by decide)
    omega
  clear hV
  have HL1 : Hid ((xs.take 1).length = 1) := hid (by simp; omega)
  have HZ := hid (lenSz_lenSize _ hVb)
  have HM : Hid (((x.toNat : Int) % 64) = ((x.toNat % 64 : Nat) : Int)) := hid (by omega)
  rw [List.length_cons]
  go_enter Try.func75, Try.ntmps75
  go_wp2
  refine wp_scope_jumps 0 (fun a' w' => w' = w ∧ (AtWider b o (xs.length + 1) c 2 4 (beNum (x.toNat % 64) (xs.take 1)) a' ∨ AtWider b o (xs.length + 1) c 4 4 (beNum (x.toNat % 64) (xs.take 3)) a')) (fun a' _ => (4 - intOf (a'.tmps.getD 3 undef)).toNat) rfl ?_ ?_
  · go_wp2
    go_step3
    go_wp2_with fail
    rw [HM.out]
    refine (joined_m _ _ _ 1 _ _ B hB1 HL1.out (by omega) (by omega)).mono ?_
    rintro e w' ⟨rfl, rfl⟩
    go_wp2
    go_step3
    refine ⟨rfl, rfl, .inl ?_⟩
    unfold AtWider
    repeat apply Exists.intro
    rfl
  · rintro a' w' ⟨rfl, hAt | hAt⟩
    · unfold AtWider at hAt
      obtain ⟨u1, u2, u4, u5, u8, u9, u10, u11, u12, u13, u14, u15, u16, u17, u18, u19, u20, u21, u22, u23, u24, u25, u26, u27, u28, u29, u30, u31, u32, u33, u34, u35, u36, u37, u38, u39, u40, u41, u42, u43, u44, u45, u46, u47, rfl⟩ := hAt
      go_wp2_with fail
      refine (joined_m _ _ _ 2 _ _ B hB2 HL2.out (by omega) (by omega)).mono ?_
      rintro e w' ⟨rfl, rfl⟩
      rw [HE.out]
      go_wp2
      go_step3
      refine ⟨rfl, ⟨rfl, .inr ?_⟩, ?_⟩
      · unfold AtWider
        repeat apply Exists.intro
        rfl
      · simp [intOf]
    · unfold AtWider at hAt
      obtain ⟨u1, u2, u4, u5, u8, u9, u10, u11, u12, u13, u14, u15, u16, u17, u18, u19, u20, u21, u22, u23, u24, u25, u26, u27, u28, u29, u30, u31, u32, u33, u34, u35, u36, u37, u38, u39, u40, u41, u42, u43, u44, u45, u46, u47, rfl⟩ := hAt
      go_wp2_with fail
      refine (LenSize_any _ _).mono ?_
      rintro e w' ⟨rfl, rfl⟩
      rw [HZ.out]
      by_cases hs : lenSize (beNum (x.toNat % 64) (xs.take 3)) = 4
      · rw [hs]
        have HS := hid hs
        clear hs
        go_wp2
        try simp only [Exit.jump]
        go_ret3
        refine ⟨?_, rfl⟩
        rw [lenRes, if_pos HS.out]
        rfl
      · have hs2 : ((lenSize (beNum (x.toNat % 64) (xs.take 3)) : Int) != 4) = true := by rw [bne_iff_ne]; omega
        have HS := hid hs
        clear hs
        go_wp2
        try simp only [Exit.jump]
        go_ret3
        refine ⟨?_, rfl⟩
        rw [lenRes, if_neg HS.out]
        rfl
end Go.Proofs.Ytlgcdddgahjknaa
end
section
namespace Go.Proofs.Ytlgcdddgahjknaa
open Go.RowKit
set_option linter.unusedVariables false
set_option linter.unusedSimpArgs false
/-- A length at the head of bytes: it, its size, the error. -/
def lenAt : List UInt8 → Nat × Nat × Nat
  | [] => (0, 0, 4)
  | x :: l =>
    if x.toNat < 64 then (x.toNat, 1, 0)
    else if 192 ≤ x.toNat then (0, 0, 3)
    else if x.toNat < 128 then
      if l.length < 1 then (0, 0, 4) else if lenSize (beNum (x.toNat % 64) (l.take 1)) = 2 then (beNum (x.toNat % 64) (l.take 1), 2, 0) else (0, 0, 3)
    else if l.length < 3 then (0, 0, 4) else if lenSize (beNum (x.toNat % 64) (l.take 3)) = 4 then (beNum (x.toNat % 64) (l.take 3), 4, 0) else (0, 0, 3)
def lenTup (r : Nat × Nat × Nat) : Value := .tuple #[.int .i64 (r.1 : Int), .int .i64 (r.2.1 : Int), .int .u8 (r.2.2 : Int)]
theorem lenRes_tup (V W : Nat) : lenRes V W = lenTup (if lenSize V = W then (V, W, 0) else (0, 0, 3)) := by
  unfold lenRes lenTup
  split <;> rfl
theorem lengthOf_any (A : Option Addr) (xs : List UInt8) (c : Nat) (w : World) (B : Nat) (hA : Sl w B A c (bvs xs)) :
    Calls Try.prog 75 #[.slice A xs.length c] w fun e w' => e = .returned (lenTup (lenAt xs)) ∧ w = w' := by
  rcases xs with _ | ⟨x, l⟩
  · exact lengthOf_nil A c w
  · have hcap := hA.cap
    rw [bvs_length, List.length_cons] at hcap
    have hL := hA.lie
    obtain ⟨b, o, rfl, hb, hc⟩ := hL.byte (k := 0) (by simp)
    simp only [Nat.add_zero, List.getElem_cons_zero] at hc
    have hx := x.toNat_lt
    simp only [lenAt]
    by_cases h1 : x.toNat < 64
    · rw [if_pos h1]
      exact lengthOf_one b o x.toNat (x :: l).length c w hc (by simp) h1 (by rw [List.length_cons]; omega)
    · rw [if_neg h1]
      by_cases h2 : 192 ≤ x.toNat
      · rw [if_pos h2]
        exact lengthOf_three b o x.toNat (x :: l).length c w hc (by simp) h2 (by omega) (by rw [List.length_cons]; omega)
      · rw [if_neg h2]
        by_cases h3 : x.toNat < 128
        · rw [if_pos h3]
          by_cases h4 : l.length < 1
          · rw [if_pos h4]
            exact lengthOf_short b o x.toNat (x :: l).length c w hc (by simp) (.inl ⟨by omega, h3, by rw [List.length_cons]; omega⟩)
          · rw [if_neg h4, ← lenRes_tup]
            exact lengthOf_two b o x l c w B hL (by omega) h3 (by omega) hcap.1 hcap.2
        · rw [if_neg h3]
          by_cases h4 : l.length < 3
          · rw [if_pos h4]
            exact lengthOf_short b o x.toNat (x :: l).length c w hc (by simp) (.inr ⟨by omega, by omega, by rw [List.length_cons]; omega⟩)
          · rw [if_neg h4, ← lenRes_tup]
            exact lengthOf_four b o x l c w B hL (by omega) (by omega) (by omega) hcap.1 hcap.2
/-- A reader at block g: bytes xs are left, the error is e. -/
def Rd (w : World) (g : Nat) (xs : List UInt8) (e : Nat) : Prop :=
  ∃ A c, w.heap[g]? = some (.cells #[.slice A xs.length c, .int .u8 (e : Int)] 70 (0, 0)) ∧ Sl w g A c (bvs xs)
set_option maxHeartbeats 400000 in
theorem next_short (g : Nat) (xs : List UInt8) (n : Nat) (w : World) (hr : Rd w g xs 0) (hn : xs.length < n) (h63 : n ≤ 9223372036854775807) :
    Calls Try.prog 72 #[.pointer (some ⟨g, 0, none⟩), .int .i64 (n : Int)] w fun e w' => e = .returned (.slice none 0 0) ∧ Rd w' g xs 4 ∧ w.grownBy w' (some g) := by
  obtain ⟨A, c, hg, hS⟩ := hr
  have c0 := cell_of hg 0 _ rfl
  have c1 := cell_of hg 1 _ rfl
  have f1 := frozen_of_row w g 1 _ _ hg
  go_enter Try.func72, Try.ntmps72
  go_wp2
  go_ret
  refine ⟨rfl, ⟨A, c, ?_, hS.setCell (Nat.le_refl _) _⟩, ?_⟩
  · rw [block_set hg]; rfl
  · exact grown_setCell _ _ _ _ _
set_option maxHeartbeats 400000 in
theorem next_ok (g : Nat) (xs : List UInt8) (n : Nat) (w : World) (hr : Rd w g xs 0) (hn : n ≤ xs.length) :
    Calls Try.prog 72 #[.pointer (some ⟨g, 0, none⟩), .int .i64 (n : Int)] w fun e w' => ∃ A c, e = .returned (.slice A n c) ∧ Sl w' g A c (bvs (xs.take n)) ∧ Rd w' g (xs.drop n) 0 ∧ w.grownBy w' (some g) := by
  obtain ⟨A, c, hg, hS⟩ := hr
  have hcap := hS.cap
  rw [bvs_length] at hcap
  have c0 := cell_of hg 0 _ rfl
  have f0 := frozen_of_row w g 0 _ _ hg
  have ht : bvs (xs.take n) = (bvs xs).take n := by simp [bvs, List.map_take]
  have hd : bvs (xs.drop n) = (bvs xs).drop n := by simp [bvs, List.map_drop]
  have HT := hid ht
  have HD := hid hd
  have HL : Hid ((xs.drop n).length = xs.length - n) := hid (List.length_drop ..)
  clear ht hd
  by_cases hend : c = n
  · have hn2 : xs.length = n := by omega
    have hN := hid hn2
    have hE := hid hend
    subst hend
    clear hn2
    go_enter Try.func72, Try.ntmps72
    go_wp2
    go_ret
    refine ⟨A, _, rfl, ?_, ⟨A, 0, ?_, ?_⟩, grown_setCell _ _ _ _ _⟩
    · rw [HT.out]; exact (hS.take _).setCell (Nat.le_refl _) _
    · rw [block_set hg, HL.out, hN.out, Nat.sub_self]; rfl
    · have : (xs.drop c) = [] := List.drop_eq_nil_of_le (by rw [hN.out]; exact Nat.le_refl _)
      rw [this]
      have h := (hS.setCell (p := ⟨g, 0, none⟩) (Nat.le_refl _) (.slice A 0 0)).end_ c
      rw [Nat.sub_self] at h
      exact h
  · go_enter Try.func72, Try.ntmps72
    go_wp2
    go_ret
    refine ⟨A, _, rfl, ?_, ⟨A.map (fun x => x.add n), c - n, ?_, ?_⟩, grown_setCell _ _ _ _ _⟩
    · rw [HT.out]; exact (hS.take _).setCell (Nat.le_refl _) _
    · rw [block_set hg, HL.out]; rfl
    · rw [HD.out]
      rcases hS with ⟨rfl, rfl, hx⟩ | ⟨b, o, rfl, h⟩
      · exact absurd hcap.1 (by omega)
      · have hS2 : Sl w g (some ⟨b, o, none⟩) c (bvs xs) := .inr ⟨b, o, rfl, h⟩
        have h := (hS2.setCell (p := ⟨g, 0, none⟩) (Nat.le_refl _) (.slice (some ⟨b, o + n, none⟩) (xs.length - n) (c - n))).drop n (by omega)
        simp only [Option.map_some, add_none]
        exact h
/-- A vector at the head of bytes: it, what is left, the error. -/
def vecAt (xs : List UInt8) : List UInt8 × List UInt8 × Nat :=
  if (lenAt xs).2.2 ≠ 0 then ([], xs, (lenAt xs).2.2)
  else if xs.length < (lenAt xs).2.1 + (lenAt xs).1 then ([], xs, 4)
  else ((xs.drop (lenAt xs).2.1).take (lenAt xs).1, xs.drop ((lenAt xs).2.1 + (lenAt xs).1), 0)
theorem lenAt_bounds (xs : List UInt8) : (lenAt xs).1 < 1073741824 ∧ (lenAt xs).2.1 ≤ 4 ∧ ((lenAt xs).2.2 = 0 → (lenAt xs).2.1 ≤ xs.length) ∧ (lenAt xs).2.2 ≤ 4 := by
  rcases xs with _ | ⟨x, l⟩
  · simp [lenAt]
  · have hx := x.toNat_lt
    have hb : ∀ k, k ≤ 3 → k ≤ l.length → beNum (x.toNat % 64) (l.take k) < 1073741824 := by
      intro k hk hkl
      have h := beNum_lt (x.toNat % 64) (l.take k)
      rw [List.length_take, Nat.min_eq_left hkl] at h
      have h1 : (x.toNat % 64 + 1) * 256 ^ k ≤ 64 * 256 ^ 3 := Nat.mul_le_mul (by omega) (Nat.pow_le_pow_right (by decide) hk)
      omega
    simp only [lenAt, List.length_cons]
    split
    · simp; omega
    · split
      · simp
      · split
        · split
          · simp
          · split
            · have := hb 1 (by omega) (by omega); simp; omega
            · simp
        · split
          · simp
          · split
            · have := hb 3 (by omega) (by omega); simp; omega
            · simp
set_option maxHeartbeats 800000 in
theorem nextVec_any (g : Nat) (xs : List UInt8) (w : World) (hr : Rd w g xs 0) :
    Calls Try.prog 70 #[.pointer (some ⟨g, 0, none⟩)] w fun e w' => ∃ A c, e = .returned (.slice A (vecAt xs).1.length c) ∧ Sl w' g A c (bvs (vecAt xs).1) ∧ Rd w' g (vecAt xs).2.1 (vecAt xs).2.2 ∧ w.grownBy w' (some g) := by
  have hr0 := hr
  obtain ⟨A, c, hg, hS⟩ := hr
  have hcap := hS.cap
  rw [bvs_length] at hcap
  have c0 := cell_of hg 0 _ rfl
  have c1 := cell_of hg 1 _ rfl
  have f1 := frozen_of_row w g 1 _ _ hg
  have hb := lenAt_bounds xs
  have HV : Hid (vecAt xs = if (lenAt xs).2.2 ≠ 0 then ([], xs, (lenAt xs).2.2) else if xs.length < (lenAt xs).2.1 + (lenAt xs).1 then ([], xs, 4) else ((xs.drop (lenAt xs).2.1).take (lenAt xs).1, xs.drop ((lenAt xs).2.1 + (lenAt xs).1), 0)) := hid rfl
  have HC : ∀ B, Sl w B A c (bvs xs) → Calls Try.prog 75 #[.slice A xs.length c] w fun e w' => e = .returned (lenTup (lenAt xs)) ∧ w = w' := fun B h => lengthOf_any A xs c w B h
  have HC1 := hid (HC g hS)
  clear HC
  generalize lenAt xs = r at *
  generalize vecAt xs = V at *
  obtain ⟨n, s, e⟩ := r
  simp only at hb
  by_cases he : e = 0
  · subst he
    have hs := hb.2.2.1 rfl
    by_cases hl : xs.length < s + n
    · have hV : V = ([], xs, 4) := by
        have := HV.out
        simp only [ne_eq, not_true_eq_false, if_false, if_pos hl] at this
        exact this
      subst hV
      clear HV
      go_enter Try.func70, Try.ntmps70
      go_wp2_with fail
      refine HC1.out.mono ?_
      rintro ee w' ⟨rfl, rfl⟩
      simp only [lenTup]
      go_wp2
      go_ret
      exact ⟨none, 0, rfl, Sl.nil, ⟨A, c, by rw [block_set hg]; rfl, hS.setCell (Nat.le_refl _) _⟩, grown_setCell _ _ _ _ _⟩
    · have hV : V = ((xs.drop s).take n, xs.drop (s + n), 0) := by
        have := HV.out
        simp only [ne_eq, not_true_eq_false, if_false, if_neg hl] at this
        exact this
      subst hV
      have HL : Hid (((xs.drop s).take n).length = n) := hid (by simp; omega)
      have HT : Hid (bvs ((xs.drop s).take n) = (bvs (xs.take (s + n))).drop s) := hid (by
        have h : (xs.take (s + n)).drop s = (xs.drop s).take n := by rw [List.drop_take]; congr 1; omega
        rw [← h]; simp [bvs, List.map_drop])
      clear HV
      go_enter Try.func70, Try.ntmps70
      go_wp2_with fail
      refine HC1.out.mono ?_
      rintro ee w' ⟨rfl, rfl⟩
      simp only [lenTup]
      go_wp2_with fail
      rw [show ((s : Int) + (n : Int)) = ((s + n : Nat) : Int) from by omega]
      refine (next_ok g xs (s + n) _ hr0 (by omega)).mono ?_
      rintro ee w1 ⟨A1, c1', rfl, hS1, hr1, hg1⟩
      have hcap1 := hS1.cap
      rw [bvs_length, List.length_take, Nat.min_eq_left (by omega)] at hcap1
      clear HC1 hr0 hg hS c0 c1 f1 hb
      by_cases hend : c1' = s
      · have hn0 : n = 0 := by omega
        subst hn0
        subst hend
        go_wp2
        go_ret
        refine ⟨A1, 0, by rw [HL.out]; rfl, ?_, hr1, hg1⟩
        have h := hS1.end_ c1'
        rw [Nat.sub_self] at h
        simpa [bvs] using h
      · have hlt : s < c1' := by omega
        go_wp2
        go_ret
        refine ⟨A1.map (fun x => x.add s), c1' - s, ?_, ?_, hr1, hg1⟩
        · rw [HL.out]
          have : s + n - s = n := by omega
          simp [this]
        · rw [HT.out]
          rcases hS1 with ⟨rfl, rfl, hx⟩ | ⟨b, o, rfl, h⟩
          · exact absurd hlt (by omega)
          · have hS2 : Sl w1 g (some ⟨b, o, none⟩) c1' (bvs (xs.take (s + n))) := .inr ⟨b, o, rfl, h⟩
            have h2 := hS2.drop s hlt
            simp only [Option.map_some, add_none]
            exact h2
  · have hV : V = ([], xs, e) := by
      have := HV.out
      simp only [ne_eq, he, not_false_eq_true, if_true] at this
      exact this
    subst hV
    have he1 : ((e : Int) == 0) = false := by simp; omega
    have he2 : ((e : Int) != 0) = true := by simp; omega
    clear HV he
    go_enter Try.func70, Try.ntmps70
    go_wp2_with fail
    refine HC1.out.mono ?_
    rintro ee w' ⟨rfl, rfl⟩
    simp only [lenTup]
    go_wp2
    go_ret
    exact ⟨none, 0, rfl, Sl.nil, ⟨A, c, by rw [block_set hg]; rfl, hS.setCell (Nat.le_refl _) _⟩, grown_setCell _ _ _ _ _⟩
end Go.Proofs.Ytlgcdddgahjknaa
end
section
namespace Go.Proofs.Ytlgcdddgahjknaa
open Go.RowKit
set_option linter.unusedVariables false
set_option linter.unusedSimpArgs false
theorem Rd.lt {w : World} {g e : Nat} {xs : List UInt8} (h : Rd w g xs e) : g < w.heap.size := by
  obtain ⟨A, c, hg, _⟩ := h
  exact block_lt hg
/-- A reader that nobody writes to stays as it is. -/
theorem Rd.grown {w w' : World} {g e : Nat} {xs : List UInt8} {row : Option Nat} (h : Rd w g xs e) (hg : w.grownBy w' row) (hr : ∀ k, row = some k → g < k) : Rd w' g xs e := by
  have hlt := h.lt
  obtain ⟨A, c, hb, hS⟩ := h
  exact ⟨A, c, block_grown hb hg (fun e => by have := hr g e.symm; omega), hS.grown hg (by omega) (fun k hk => by have := hr k hk; omega)⟩
theorem NewReader_any (A : Option Addr) (xs : List UInt8) (c : Nat) (w : World) (B : Nat) (hA : Lie w B A (bvs xs)) (hb : xs.length ≤ 140737488355328) :
    Calls Try.prog 21 #[.slice A xs.length c] w fun e w' => ∃ g, e = .returned (.pointer (some ⟨g, 0, none⟩)) ∧ w.heap.size ≤ g ∧ Rd w' g xs 0 ∧ w.grownBy w' none := by
  go_enter Try.func21, Try.ntmps21
  go_wp2_with fail
  refine (clone_any A xs c _ B hA hb).mono ?_
  rintro e w1 ⟨v1, rfl, ho, hg⟩
  obtain ⟨A1, c1, rfl, hS⟩ := own_sl ho
  go_wp2
  go_ret
  exact ⟨w1.heap.size, rfl, hg.size, ⟨A1, c1, heap_alloc_new w1 _, hS.alloc (Nat.le_refl _) _⟩, grown_alloc hg _⟩
theorem Err_any (g : Nat) (xs : List UInt8) (e : Nat) (w : World) (hr : Rd w g xs e) :
    Calls Try.prog 58 #[.pointer (some ⟨g, 0, none⟩)] w fun r w' => r = .returned (.int .u8 (e : Int)) ∧ w = w' := by
  obtain ⟨A, c, hg, hS⟩ := hr
  have c1 := cell_of hg 1 _ rfl
  go_enter Try.func58, Try.ntmps58
  go_wp2
  go_ret
  exact ⟨rfl, rfl⟩
theorem Err_nil (w : World) :
    Calls Try.prog 58 #[.pointer none] w fun r w' => r = .returned (.int .u8 2) ∧ w = w' := by
  go_enter Try.func58, Try.ntmps58
  go_wp2
  go_ret
  exact ⟨rfl, rfl⟩
def endOf (xs : List UInt8) (e : Nat) : Nat := if e ≠ 0 then e else if xs.length = 0 then 0 else 5
theorem End_any (g : Nat) (xs : List UInt8) (e : Nat) (w : World) (hr : Rd w g xs e) (he : e < 256) :
    Calls Try.prog 40 #[.pointer (some ⟨g, 0, none⟩)] w fun r w' => r = .returned (.int .u8 (endOf xs e : Int)) ∧ w = w' := by
  have hr0 := hr
  obtain ⟨A, c, hg, hS⟩ := hr
  have c0 := cell_of hg 0 _ rfl
  by_cases h0 : e = 0
  · subst h0
    have hcall := hid (Err_any g xs 0 w hr0)
    clear hr0
    by_cases hl : xs.length = 0
    · have HF : Hid (endOf xs 0 = 0) := hid (by simp [endOf, hl])
      rw [hl] at hg c0
      clear hl
      go_enter Try.func40, Try.ntmps40
      go_wp2_with fail
      refine hcall.out.mono ?_
      rintro e w' ⟨rfl, rfl⟩
      go_wp2
      go_ret
      exact ⟨by rw [HF.out]; rfl, rfl⟩
    · have HF : Hid (endOf xs 0 = 5) := hid (by simp only [endOf]; rw [if_neg (by simp), if_neg hl])
      have hp : 0 < xs.length := by omega
      clear hl
      go_enter Try.func40, Try.ntmps40
      go_wp2_with fail
      refine hcall.out.mono ?_
      rintro e w' ⟨rfl, rfl⟩
      go_wp2
      go_ret
      exact ⟨by rw [HF.out]; rfl, rfl⟩
  · have HF : Hid (endOf xs e = e) := hid (by simp [endOf, h0])
    have he1 : ((e : Int) != 0) = true := by simp; omega
    clear h0
    go_enter Try.func40, Try.ntmps40
    go_wp2_with fail
    refine (Err_any g xs e _ hr0).mono ?_
    rintro e w' ⟨rfl, rfl⟩
    go_wp2
    go_ret
    exact ⟨by rw [HF.out]; rfl, rfl⟩
theorem Left_any (g : Nat) (xs : List UInt8) (e : Nat) (w : World) (hr : Rd w g xs e) :
    Calls Try.prog 24 #[.pointer (some ⟨g, 0, none⟩)] w fun r w' => r = .returned (.int .i64 (xs.length : Int)) ∧ w = w' := by
  obtain ⟨A, c, hg, hS⟩ := hr
  have c0 := cell_of hg 0 _ rfl
  go_enter Try.func24, Try.ntmps24
  go_wp2
  go_ret
  exact ⟨rfl, rfl⟩
/-- A number of so many bytes at the head of bytes: it, what is left, the error. -/
def numAt (xs : List UInt8) (size : Nat) : Nat × List UInt8 × Nat := if xs.length < size then (0, xs, 4) else (beNum 0 (xs.take size), xs.drop size, 0)
theorem NumR_any (g : Nat) (xs : List UInt8) (size : Nat) (w : World) (hr : Rd w g xs 0) (hs : size = 1 ∨ size = 2 ∨ size = 4 ∨ size = 8) :
    Calls Try.prog 60 #[.pointer (some ⟨g, 0, none⟩), .int .i64 (size : Int)] w fun r w' => r = .returned (.int .u64 ((numAt xs size).1 : Int)) ∧ Rd w' g (numAt xs size).2.1 (numAt xs size).2.2 ∧ w.grownBy w' (some g) := by
  by_cases hl : xs.length < size
  · have HN : Hid (numAt xs size = (0, xs, 4)) := hid (by simp [numAt, hl])
    go_enter Try.func60, Try.ntmps60
    go_wp2_with fail
    refine (Err_any g xs 0 _ hr).mono ?_
    rintro e w' ⟨rfl, rfl⟩
    go_wp2_with fail
    refine (isNumSize_yes _ _ (by omega)).mono ?_
    rintro e w' ⟨rfl, rfl⟩
    go_wp2_with fail
    refine (next_short g xs size _ hr hl (by omega)).mono ?_
    rintro e w1 ⟨rfl, hr1, hg1⟩
    go_wp2_with fail
    refine (joined_m 0 none [] 0 _ _ 0 Lie.nil rfl (by decide) (by omega)).mono ?_
    rintro e w' ⟨rfl, rfl⟩
    go_wp2
    go_ret
    rw [HN.out]
    exact ⟨rfl, hr1, hg1⟩
  · have HN : Hid (numAt xs size = (beNum 0 (xs.take size), xs.drop size, 0)) := hid (by simp [numAt, hl])
    have HL : Hid ((xs.take size).length = size) := hid (by simp; omega)
    go_enter Try.func60, Try.ntmps60
    go_wp2_with fail
    refine (Err_any g xs 0 _ hr).mono ?_
    rintro e w' ⟨rfl, rfl⟩
    go_wp2_with fail
    refine (isNumSize_yes _ _ (by omega)).mono ?_
    rintro e w' ⟨rfl, rfl⟩
    go_wp2_with fail
    refine (next_ok g xs size _ hr (by omega)).mono ?_
    rintro e w1 ⟨A, c, rfl, hS, hr1, hg1⟩
    go_wp2_with fail
    refine (joined_m 0 A (xs.take size) size c _ g hS.lie HL.out ?_ (by omega)).mono ?_
    · rcases hs with rfl | rfl | rfl | rfl <;> decide
    rintro e w' ⟨rfl, rfl⟩
    go_wp2
    go_ret
    rw [HN.out]
    exact ⟨rfl, hr1, hg1⟩
theorem Num_nil (n : Int) (w : World) :
    Calls Try.prog 60 #[.pointer none, .int .i64 n] w fun r w' => r = .returned (.int .u64 0) ∧ w = w' := by
  go_enter Try.func60, Try.ntmps60
  go_wp2_with fail
  refine (Err_nil _).mono ?_
  rintro e w' ⟨rfl, rfl⟩
  go_wp2
  go_ret
  exact ⟨rfl, rfl⟩
theorem vecAt_length (xs : List UInt8) : (vecAt xs).1.length ≤ xs.length := by
  unfold vecAt
  split
  · simp
  · split
    · simp
    · simp; omega
theorem Vec_any (g : Nat) (xs : List UInt8) (w : World) (hr : Rd w g xs 0) (hb : xs.length ≤ 140737488355328) :
    Calls Try.prog 59 #[.pointer (some ⟨g, 0, none⟩)] w fun r w' => ∃ v, r = .returned v ∧ OwnB w' w.heap.size v (vecAt xs).1 ∧ Rd w' g (vecAt xs).2.1 (vecAt xs).2.2 ∧ w.grownBy w' (some g) := by
  have hv := vecAt_length xs
  have hlt := hr.lt
  go_enter Try.func59, Try.ntmps59
  go_wp2_with fail
  refine (Err_any g xs 0 _ hr).mono ?_
  rintro e w' ⟨rfl, rfl⟩
  go_wp2_with fail
  refine (nextVec_any g xs _ hr).mono ?_
  rintro e w1 ⟨A, c, rfl, hS, hr1, hg1⟩
  go_wp2_with fail
  refine (clone_any A _ c _ g hS.lie (by omega)).mono ?_
  rintro e w2 ⟨v2, rfl, ho2, hg2⟩
  go_wp2
  go_ret
  exact ⟨v2, rfl, own_base ho2 hg1.size, hr1.grown hg2 (fun _ h => by cases h), grown_step hg1 (.inl rfl) (grown_none hg2 _)⟩
end Go.Proofs.Ytlgcdddgahjknaa
end
section
namespace Go.Proofs.Ytlgcdddgahjknaa
open Go.RowKit
set_option linter.unusedVariables false
set_option linter.unusedSimpArgs false
theorem vecAt_err (xs : List UInt8) : (vecAt xs).2.2 ≤ 4 := by
  have := (lenAt_bounds xs).2.2.2
  unfold vecAt
  split
  · exact this
  · split <;> simp
theorem vecAt_bad (xs : List UInt8) (h : (vecAt xs).2.2 ≠ 0) : (vecAt xs).1 = [] ∧ (vecAt xs).2.1 = xs := by
  unfold vecAt at h ⊢
  split at h
  · rename_i h0
    rw [if_pos h0]
    exact ⟨rfl, rfl⟩
  · rename_i h0
    split at h
    · rename_i h1
      rw [if_neg h0, if_pos h1]
      exact ⟨rfl, rfl⟩
    · simp at h
theorem own_ne {w : World} {B B' : Nat} {e e' : TypeId} {s s' n n' : Nat} {v v' : Value} {xs xs' : List Value} (h : w.ownsRow B e s v n xs) (h' : w.ownsRow B' e' s' v' n' xs') (hne : e ≠ e') : v.ownBlock = none ∨ v.ownBlock ≠ v'.ownBlock := by
  rcases h.2 with ⟨rfl, _⟩ | ⟨g, cap, cur, rfl, _, hg, _⟩
  · exact .inl rfl
  · refine .inr fun he => ?_
    rcases h'.2 with ⟨rfl, _⟩ | ⟨g', cap', cur', rfl, _, hg', _⟩
    · simp [Value.ownBlock] at he
    · simp only [Value.ownBlock, Option.some.injEq] at he
      subst he
      rw [hg] at hg'
      injection hg' with hg'
      injection hg' with _ ht
      exact hne ht
/-- The call owns the slice v of byte slices that read as ls, each of them the call's own, too. -/
def OwnL (w : World) (B : Nat) (v : Value) (ls : List (List UInt8)) : Prop :=
  ∃ vs : List Value, w.ownsRow B 22 1 v ls.length vs ∧ ∀ (j : Nat) (x : List UInt8), ls[j]? = some x → ∃ u, vs[j]? = some u ∧ OwnB w B u x
theorem OwnL.nil (w : World) (B : Nat) : OwnL w B (.slice none 0 0) [] := ⟨[], World.ownsRow_nil _ _ _ _, fun j x h => by simp at h⟩
theorem OwnL.kept {w w' : World} {B : Nat} {v : Value} {ls : List (List UInt8)} {row : Option Nat} (h : OwnL w B v ls) (hg : w.grownBy w' row) (hr : ∀ k, row = some k → k < B) : OwnL w' B v ls := by
  have hk : ∀ (u : Value), (∀ k, u.ownBlock = some k → B ≤ k) → u.ownBlock = none ∨ u.ownBlock ≠ row := by
    intro u hu
    rcases hb : u.ownBlock with _ | k
    · exact .inl rfl
    · exact .inr fun e => by have := hu k hb; have := hr k e.symm; omega
  obtain ⟨vs, h1, h2⟩ := h
  refine ⟨vs, h1.kept hg (hk _ (own_lt h1)), fun j x hx => ?_⟩
  obtain ⟨u, hu, ho⟩ := h2 j x hx
  exact ⟨u, hu, World.ownsRow.kept ho hg (hk _ (own_lt ho))⟩
/-- One vector more behind an owned list. -/
theorem OwnL.snoc {w w' : World} {B : Nat} {v v' u : Value} {ls : List (List UInt8)} {x : List UInt8} {vs : List Value} (h1 : w.ownsRow B 22 1 v ls.length vs)
    (h2 : ∀ (j : Nat) (x : List UInt8), ls[j]? = some x → ∃ u, vs[j]? = some u ∧ OwnB w B u x) (hu : OwnB w B u x)
    (hvs : w'.ownsRow B 22 1 v' (ls.length + 1) (vs ++ [u])) (hg : w.grownBy w' v.ownBlock) : OwnL w' B v' (ls ++ [x]) := by
  have hl : vs.length = ls.length := by have := h1.1; omega
  have hkeep : ∀ {u : Value} {x : List UInt8}, OwnB w B u x → OwnB w' B u x := fun ho => World.ownsRow.kept ho hg (own_ne ho h1 (by decide))
  refine ⟨vs ++ [u], by rw [List.length_append]; exact hvs, fun j y hy => ?_⟩
  rw [List.getElem?_append] at hy
  split at hy
  · rename_i hj
    obtain ⟨u', hu', ho⟩ := h2 j y hy
    exact ⟨u', by rw [List.getElem?_append, if_pos (by omega)]; exact hu', hkeep ho⟩
  · rename_i hj
    rw [List.getElem?_append, if_neg (by omega), hl]
    rw [List.getElem?_singleton] at hy ⊢
    split at hy
    · rename_i hj0
      rw [if_pos hj0]
      injection hy with hy
      subst hy
      exact ⟨u, rfl, hkeep hu⟩
    · cases hy
end Go.Proofs.Ytlgcdddgahjknaa
end
