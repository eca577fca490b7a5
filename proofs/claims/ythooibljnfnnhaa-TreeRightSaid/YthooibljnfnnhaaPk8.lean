/-
  Texts of this claim in one file: Wire3, Wire4, Wire6, Wire8.
-/
import Derived.Test.YthooibljnfnnhaaPk25
import Derived.Deep.LoopGhost
import Derived.ScopeJumps
section
namespace Go.Proofs.Ythooibljnfnnhaa
section
open Go.RowKit
set_option linter.unusedVariables false
set_option linter.unusedSimpArgs false
theorem isNumSize_yes (n : Int) (w : World) (h : n = 1 ∨ n = 2 ∨ n = 4 ∨ n = 8) :
    Calls Try.prog 105 #[.int .i64 n] w fun e w' => e = .returned (.bool true) ∧ w = w' := by
  rcases h with rfl | rfl | rfl | rfl
  all_goals
    go_enter Try.func105, Try.ntmps105
    go_wp2
    go_ret
    exact ⟨rfl, rfl⟩
def lenSz (n : Int) : Int := if n < 0 ∨ 1073741824 ≤ n then 0 else if n < 64 then 1 else if n < 16384 then 2 else 4
theorem LenSize_any (n : Int) (w : World) :
    Calls Try.prog 109 #[.int .i64 n] w fun e w' => e = .returned (.int .i64 (lenSz n)) ∧ w = w' := by
  unfold lenSz
  by_cases h0 : n < 0
  · go_enter Try.func109, Try.ntmps109
    go_wp2
    go_ret
    simp [h0]
  · by_cases h1 : 1073741824 ≤ n
    · go_enter Try.func109, Try.ntmps109
      go_wp2
      go_ret
      simp [h1]
    · by_cases h2 : n < 64
      · go_enter Try.func109, Try.ntmps109
        go_wp2
        go_ret
        simp [h0, h1, h2]
      · by_cases h3 : n < 16384
        all_goals
          go_enter Try.func109, Try.ntmps109
          go_wp2
          go_ret
          simp [h0, h1, h2, h3]
theorem roomy_any (A : Option Addr) (xs : List UInt8) (c m : Nat) (w : World) (hA : Lie w w.heap.size A (bvs xs)) (hb : xs.length + m ≤ 140737488355328) :
    Calls Try.prog 108 #[.slice A xs.length c, .int .i64 (m : Int)] w fun e w' => ∃ v, e = .returned v ∧ OwnB w' w.heap.size v xs ∧ Below w.heap.size w w' := by
  obtain ⟨i0, hi, hz0, hz1, hz2⟩ := info_parts infoU8
  go_enter Try.func108, Try.ntmps108
  go_wp2_with (at_make; refine wpList_make_own _ rfl _ _ 25 rfl w.heap.size 5 i0 (.int .u8 0) 1 Try.underlying25 hi hz0 hz1 _ _ _ (xs.length + m) rfl rfl ?c1 ?c2 ?c3 (Nat.le_refl _) ?_)
  case c1 => simp
  case c2 => rw [hz2]; omega
  case c3 => unfold maxLen; omega
  intro w1 hown hg
  have hA1 : Lie w1 w.heap.size A (bvs xs) := hA.grown hg (Nat.le_refl _) (fun _ h => by cases h)
  go_wp2_with (at_builtin; refine wpList_append_lie rfl _ _ 25 rfl w.heap.size 5 (.int .u8 0) 1 Try.underlying25 infoU8 rfl rfl hown (bvs_length xs) rfl hA1 (bvs_one xs) ?d1 ?d2 ?d3 ?_)
  case d1 => unfold maxLen; omega
  case d2 => omega
  case d3 => exact hg.size
  intro v2 w2 hown2 hg2 _
  go_wp2
  go_ret
  exact ⟨v2, rfl, by simpa [OwnB] using hown2, ((Below.refl _ _).grown hg (Nat.le_refl _) (fun _ h => by cases h)).grown hg2 hg.size (own_lt hown)⟩
end
section
open Go.RowKit
set_option linter.unusedVariables false
set_option linter.unusedSimpArgs false
set_option maxHeartbeats 400000 in
theorem appendNum_any (v : Value) (xs : List UInt8) (size n : Nat) (w : World) (B : Nat) (hs : size ≤ 8) (hn : n < 18446744073709551616) (hown : OwnB w B v xs) (hB : B ≤ w.heap.size) (hb : xs.length + 8 ≤ 140737488355328) :
    Calls Try.prog 107 #[v, .int .i64 (size : Int), .int .u64 (n : Int)] w fun e w' => ∃ v', e = .returned v' ∧ OwnB w' B v' (xs ++ beBytes size n) ∧ w.grownBy w' v.ownBlock ∧ Since w v.ownBlock v'.ownBlock := by
  go_enter Try.func107, Try.ntmps107
  go_wp2
  go_loopw [0, 7] (fun u i wr => ∃ (k : Nat) (pre : List UInt8), k ≤ size ∧ i = .int .i64 ((k : Int) - 1) ∧ pre ++ beBytes k n = beBytes size n ∧ OwnB wr B u (xs ++ pre) ∧ w.grownBy wr v.ownBlock ∧ Since w v.ownBlock u.ownBlock)
    (fun _ i _ => (intOf i + 1).toNat)
  case atStart => exact ⟨size, [], Nat.le_refl _, rfl, rfl, by simpa using hown, World.grownBy.refl _ _, .inl rfl⟩
  case round =>
    obtain ⟨k, pre, hk, rfl, hpre, hown1, hg1, hat1⟩ := hrel
    have HP := hid hpre
    clear hpre
    by_cases h0 : k = 0
    · subst h0
      go_wp2
      go_ret
      refine ⟨u0, rfl, ?_, hg1, hat1⟩
      have := HP.out
      simp only [beBytes, List.append_nil] at this
      rw [← this]
      exact hown1
    · have hk1 : (1 : Int) ≤ (k : Int) := by omega
      have hk8 : (k : Int) ≤ 8 := by omega
      have hl : (xs ++ pre).length + 1 ≤ 140737488355328 := by
        have := congrArg List.length HP.out
        simp at this ⊢
        omega
      go_wp2_with (at_builtin; refine wpList_append_lie rfl _ _ 25 rfl B 5 (.int .u8 0) 1 Try.underlying25 infoU8 rfl rfl (World.ownsRow.alloc hown1 _) rfl rfl (Lie.new1 _ _ _) ?d0 ?d1 ?d2 ?d3 ?_)
      case d0 => intro u hu; simp at hu; subst hu; rfl
      case d1 => rw [List.length_singleton]; unfold maxLen; omega
      case d2 => rw [List.length_singleton]; omega
      case d3 => have := hg1.size; simp; omega
      intro v2 w2 hown2 hg2 hat2
      obtain ⟨j, rfl⟩ : ∃ j, k = j + 1 := ⟨k - 1, by omega⟩
      have hO : OwnB w2 B v2 (xs ++ (pre ++ [UInt8.ofNat (n / 256 ^ j)])) := by
        rw [← List.append_assoc]
        exact own_snoc hown2 (by simp) (by rw [Nat.add_sub_cancel]; exact shr_val n j)
      have hG : w.grownBy w2 v.ownBlock := grown_step (grown_alloc hg1 _) hat1 hg2
      have hS : Since w v.ownBlock v2.ownBlock := since_step hat1 hg1.size (since_of_at hat2 (by have := hg1.size; simp))
      have HN : Hid ((pre ++ [UInt8.ofNat (n / 256 ^ j)]) ++ beBytes j n = beBytes size n) := hid (by rw [← HP.out]; simp [beBytes])
      clear hown2 hg2 hat2 hown1 hg1 hat1 HP
      go_wp2
      go_roundw
      case rel => exact ⟨j, _, by omega, by go_num, HN.out, hO, hG, hS⟩
      case measure => simp [intOf]
end
section
open Go.RowKit
set_option linter.unusedVariables false
set_option linter.unusedSimpArgs false
/-- The bytes of a length. -/
def lenBytes (n : Nat) : List UInt8 := if n < 64 then beBytes 1 n else if n < 16384 then beBytes 2 (16384 + n) else beBytes 4 (2147483648 + n)
/-- The bytes of a vector. -/
def vecBytes (v : List UInt8) : List UInt8 := lenBytes v.length ++ v
def lenSize (n : Nat) : Nat := if n < 64 then 1 else if n < 16384 then 2 else 4
theorem lenBytes_length (n : Nat) : (lenBytes n).length = lenSize n := by
  unfold lenBytes lenSize
  split
  · simp
  · split <;> simp
theorem lenSize_le (n : Nat) : 1 ≤ lenSize n ∧ lenSize n ≤ 4 := by
  unfold lenSize
  split
  · omega
  · split <;> omega
set_option maxHeartbeats 400000 in
theorem appendLen_any (v : Value) (xs : List UInt8) (n : Nat) (w : World) (B : Nat) (hn : n < 1073741824) (hown : OwnB w B v xs) (hB : B ≤ w.heap.size) (hb : xs.length + 8 ≤ 140737488355328) :
    Calls Try.prog 115 #[v, .int .i64 (n : Int)] w fun e w' => ∃ v', e = .returned v' ∧ OwnB w' B v' (xs ++ lenBytes n) ∧ w.grownBy w' v.ownBlock ∧ Since w v.ownBlock v'.ownBlock := by
  by_cases h1 : n < 64
  · have hsz : lenSz (n : Int) = 1 := by unfold lenSz; rw [if_neg (by omega), if_pos (by omega)]
    have hl : lenBytes n = beBytes 1 n := by unfold lenBytes; rw [if_pos h1]
    have hor : bits .or .u64 0 (n : Int) = (n : Int) := by have := or_join 6 0 n rfl (by omega) (by omega) (by omega); simpa using this
    rw [hl]
    have HO := hid hor
    clear hor hl
    go_enter Try.func115, Try.ntmps115
    go_wp2_with fail
    refine (LenSize_any _ _).mono ?_
    rintro e w' ⟨rfl, rfl⟩
    rw [hsz]
    clear hsz
    go_wp2_with fail
    rw [HO.out]
    refine (appendNum_any v xs 1 n _ B (by omega) (by omega) hown hB hb).mono ?_
    rintro e w' ⟨v', rfl, ho, hg, hs⟩
    go_wp2
    go_ret
    exact ⟨v', rfl, ho, hg, hs⟩
  · by_cases h2 : n < 16384
    · have hsz : lenSz (n : Int) = 2 := by unfold lenSz; rw [if_neg (by omega), if_neg (by omega), if_pos (by omega)]
      have hl : lenBytes n = beBytes 2 (16384 + n) := by unfold lenBytes; rw [if_neg h1, if_pos h2]
      have hor : bits .or .u64 16384 (n : Int) = ((16384 + n : Nat) : Int) := or_join 14 16384 n rfl (by omega) (by omega) (by omega)
      rw [hl]
      have HO := hid hor
      clear hor hl
      go_enter Try.func115, Try.ntmps115
      go_wp2_with fail
      refine (LenSize_any _ _).mono ?_
      rintro e w' ⟨rfl, rfl⟩
      rw [hsz]
      clear hsz
      go_wp2_with fail
      rw [HO.out]
      refine (appendNum_any v xs 2 (16384 + n) _ B (by omega) (by omega) hown hB hb).mono ?_
      rintro e w' ⟨v', rfl, ho, hg, hs⟩
      go_wp2
      go_ret
      exact ⟨v', rfl, ho, hg, hs⟩
    · have hsz : lenSz (n : Int) = 4 := by unfold lenSz; rw [if_neg (by omega), if_neg (by omega), if_neg (by omega)]
      have hl : lenBytes n = beBytes 4 (2147483648 + n) := by unfold lenBytes; rw [if_neg h1, if_neg h2]
      have hor : bits .or .u64 2147483648 (n : Int) = ((2147483648 + n : Nat) : Int) := or_join 30 2147483648 n rfl (by omega) (by omega) (by omega)
      rw [hl]
      have HO := hid hor
      clear hor hl
      go_enter Try.func115, Try.ntmps115
      go_wp2_with fail
      refine (LenSize_any _ _).mono ?_
      rintro e w' ⟨rfl, rfl⟩
      rw [hsz]
      clear hsz
      go_wp2_with fail
      rw [HO.out]
      refine (appendNum_any v xs 4 (2147483648 + n) _ B (by omega) (by omega) hown hB hb).mono ?_
      rintro e w' ⟨v', rfl, ho, hg, hs⟩
      go_wp2
      go_ret
      exact ⟨v', rfl, ho, hg, hs⟩
set_option maxHeartbeats 400000 in
theorem appendVec_any (v : Value) (xs : List UInt8) (A : Option Addr) (ys : List UInt8) (c : Nat) (w : World) (B : Nat) (hn : ys.length < 1073741824) (hown : OwnB w B v xs) (hB : B ≤ w.heap.size) (hA : Lie w B A (bvs ys)) (hb : xs.length + ys.length + 8 ≤ 140737488355328) :
    Calls Try.prog 110 #[v, .slice A ys.length c] w fun e w' => ∃ v', e = .returned v' ∧ OwnB w' B v' (xs ++ vecBytes ys) ∧ w.grownBy w' v.ownBlock ∧ Since w v.ownBlock v'.ownBlock := by
  go_enter Try.func110, Try.ntmps110
  go_wp2_with fail
  refine (appendLen_any v xs ys.length _ B hn hown hB (by omega)).mono ?_
  rintro e w1 ⟨v1, rfl, ho1, hg1, hs1⟩
  have hA1 : Lie w1 B A (bvs ys) := hA.grown hg1 hB (own_lt hown)
  have hz := lenBytes_length ys.length
  have hz2 := lenSize_le ys.length
  have HZ := hid hz
  clear hz
  go_wp2_with (at_builtin; refine wpList_append_lie rfl _ _ 25 rfl B 5 (.int .u8 0) 1 Try.underlying25 infoU8 rfl rfl ho1 (bvs_length ys) rfl hA1 (bvs_one ys) ?d1 ?d2 ?d3 ?_)
  case d1 => rw [List.length_append, HZ.out]; unfold maxLen; omega
  case d2 => rw [List.length_append, HZ.out]; omega
  case d3 => exact Nat.le_trans hB hg1.size
  intro v2 w2 hown2 hg2 hat2
  go_wp2
  go_ret
  refine ⟨v2, rfl, ?_, grown_step hg1 hs1 hg2, since_step hs1 hg1.size (since_of_at hat2 (Nat.le_refl _))⟩
  simpa [OwnB, vecBytes, bvs_append, Nat.add_assoc] using hown2
end
end Go.Proofs.Ythooibljnfnnhaa
end
section
namespace Go.Proofs.Ythooibljnfnnhaa
open Go.RowKit
set_option linter.unusedVariables false
set_option linter.unusedSimpArgs false
theorem lenSz_lenSize (n : Nat) (h : n < 1073741824) : lenSz (n : Int) = (lenSize n : Int) := by
  unfold lenSz lenSize
  rw [if_neg (by omega)]
  split
  · rw [if_pos (by omega)]; rfl
  · split
    · rw [if_neg (by omega), if_pos (by omega)]; rfl
    · rw [if_neg (by omega), if_neg (by omega)]; rfl
theorem PutNum_ok (A : Option Addr) (xs : List UInt8) (c size n : Nat) (w : World) (hs : size = 1 ∨ size = 2 ∨ size = 4 ∨ size = 8) (hn : n < 18446744073709551616) (hA : Lie w w.heap.size A (bvs xs)) (hb : xs.length + 8 ≤ 140737488355328) :
    Calls Try.prog 86 #[.slice A xs.length c, .int .i64 (size : Int), .int .u64 (n : Int)] w fun e w' => ∃ v, e = .returned v ∧ OwnB w' w.heap.size v (xs ++ beBytes size n) ∧ Below w.heap.size w w' := by
  go_enter Try.func86, Try.ntmps86
  go_wp2_with fail
  refine (isNumSize_yes _ _ (by omega)).mono ?_
  rintro e w' ⟨rfl, rfl⟩
  go_wp2_with fail
  refine (roomy_any A xs c size _ hA (by omega)).mono ?_
  rintro e w1 ⟨v1, rfl, ho, hbl⟩
  go_wp2_with fail
  refine (appendNum_any v1 xs size n w1 w.heap.size (by omega) hn ho hbl.size hb).mono ?_
  rintro e w2 ⟨v2, rfl, ho2, hg, hs2⟩
  go_wp2
  go_ret
  exact ⟨v2, rfl, ho2, hbl.grown hg hbl.size (own_lt ho)⟩
theorem PutVec_ok (A : Option Addr) (xs : List UInt8) (c : Nat) (A' : Option Addr) (ys : List UInt8) (c' : Nat) (w : World) (hn : ys.length < 1073741824) (hA : Lie w w.heap.size A (bvs xs)) (hA' : Lie w w.heap.size A' (bvs ys)) (hb : xs.length + 1073741840 ≤ 140737488355328) :
    Calls Try.prog 87 #[.slice A xs.length c, .slice A' ys.length c'] w fun e w' => ∃ v, e = .returned v ∧ OwnB w' w.heap.size v (xs ++ vecBytes ys) ∧ Below w.heap.size w w' := by
  have hl := lenSize_le ys.length
  have hsz := lenSz_lenSize ys.length hn
  have HS := hid hsz
  clear hsz
  generalize lenSize ys.length = s at *
  have h0 : ((s : Int) == 0) = false := by simp; omega
  go_enter Try.func87, Try.ntmps87
  go_wp2_with fail
  refine (LenSize_any _ _).mono ?_
  rintro e w' ⟨rfl, rfl⟩
  rw [HS.out]
  go_wp2_with fail
  rw [show ((s : Int) + (ys.length : Int)) = ((s + ys.length : Nat) : Int) from by omega]
  refine (roomy_any A xs c (s + ys.length) _ hA (by omega)).mono ?_
  rintro e w1 ⟨v1, rfl, ho, hbl⟩
  go_wp2_with fail
  refine (appendVec_any v1 xs A' ys c' w1 w.heap.size hn ho hbl.size (hA'.below hbl) (by omega)).mono ?_
  rintro e w2 ⟨v2, rfl, ho2, hg, hs2⟩
  go_wp2
  go_ret
  exact ⟨v2, rfl, ho2, hbl.grown hg hbl.size (own_lt ho)⟩
end Go.Proofs.Ythooibljnfnnhaa
end
section
namespace Go.Proofs.Ythooibljnfnnhaa
open Go.RowKit
set_option linter.unusedVariables false
set_option linter.unusedSimpArgs false
/-- A length at the head of bytes: it, its size, the error. -/
def lenAt : List UInt8 → Nat × Nat × Nat
  | [] => (0, 0, 4)
  | x :: l =>
    if x.toNat < 64 then (x.toNat, 1, 0)
    else if 192 ≤ x.toNat then (0, 0, 3)
    else if x.toNat < 128 then
      if l.length < 1 then (0, 0, 4) else if lenSize (beNum (x.toNat % 64) (l.take 1)) = 2 then (beNum (x.toNat % 64) (l.take 1), 2, 0) else (0, 0, 3)
    else if l.length < 3 then (0, 0, 4) else if lenSize (beNum (x.toNat % 64) (l.take 3)) = 4 then (beNum (x.toNat % 64) (l.take 3), 4, 0) else (0, 0, 3)
/-- A vector at the head of bytes: it, what is left, the error. -/
def vecAt (xs : List UInt8) : List UInt8 × List UInt8 × Nat :=
  if (lenAt xs).2.2 ≠ 0 then ([], xs, (lenAt xs).2.2)
  else if xs.length < (lenAt xs).2.1 + (lenAt xs).1 then ([], xs, 4)
  else ((xs.drop (lenAt xs).2.1).take (lenAt xs).1, xs.drop ((lenAt xs).2.1 + (lenAt xs).1), 0)
end Go.Proofs.Ythooibljnfnnhaa
end
section
namespace Go.Proofs.Ythooibljnfnnhaa
open Go.RowKit
set_option linter.unusedVariables false
set_option linter.unusedSimpArgs false
/-- The call owns the slice v of byte slices that read as ls, each of them the call's own, too. -/
def OwnL (w : World) (B : Nat) (v : Value) (ls : List (List UInt8)) : Prop :=
  ∃ vs : List Value, w.ownsRow B 25 1 v ls.length vs ∧ ∀ (j : Nat) (x : List UInt8), ls[j]? = some x → ∃ u, vs[j]? = some u ∧ OwnB w B u x
theorem OwnL.nil (w : World) (B : Nat) : OwnL w B (.slice none 0 0) [] := ⟨[], World.ownsRow_nil _ _ _ _, fun j x h => by simp at h⟩
theorem OwnL.kept {w w' : World} {B : Nat} {v : Value} {ls : List (List UInt8)} {row : Option Nat} (h : OwnL w B v ls) (hg : w.grownBy w' row) (hr : ∀ k, row = some k → k < B) : OwnL w' B v ls := by
  have hk : ∀ (u : Value), (∀ k, u.ownBlock = some k → B ≤ k) → u.ownBlock = none ∨ u.ownBlock ≠ row := by
    intro u hu
    rcases hb : u.ownBlock with _ | k
    · exact .inl rfl
    · exact .inr fun e => by have := hu k hb; have := hr k e.symm; omega
  obtain ⟨vs, h1, h2⟩ := h
  refine ⟨vs, h1.kept hg (hk _ (own_lt h1)), fun j x hx => ?_⟩
  obtain ⟨u, hu, ho⟩ := h2 j x hx
  exact ⟨u, hu, World.ownsRow.kept ho hg (hk _ (own_lt ho))⟩
theorem OwnL.base {w : World} {B B' : Nat} {v : Value} {ls : List (List UInt8)} (h : OwnL w B' v ls) (hB : B ≤ B') : OwnL w B v ls := by
  have hb : ∀ {e : TypeId} {n : Nat} {u : Value} {xs : List Value}, w.ownsRow B' e 1 u n xs → w.ownsRow B e 1 u n xs := by
    intro e n u xs h
    refine ⟨h.1, ?_⟩
    rcases h.2 with h2 | ⟨g, cap, cur, hv, hb, r⟩
    · exact .inl h2
    · exact .inr ⟨g, cap, cur, hv, Nat.le_trans hB hb, r⟩
  obtain ⟨vs, h1, h2⟩ := h
  refine ⟨vs, hb h1, fun j x hx => ?_⟩
  obtain ⟨u, hu, ho⟩ := h2 j x hx
  exact ⟨u, hu, hb ho⟩
end Go.Proofs.Ythooibljnfnnhaa
end
