/-
  Package wire, the putting side, part 2: numbers.
-/
import Derived.Test.YtkdpaaaleicopaaWire1
namespace Go.Proofs.Ytkdpaaaleicopaa
open Go.RowKit
set_option linter.unusedVariables false
set_option linter.unusedSimpArgs false

set_option maxHeartbeats 400000 in
theorem appendNum_any (v : Value) (xs : List UInt8) (size n : Nat) (w : World) (B : Nat) (hs : size ≤ 8) (hn : n < 18446744073709551616) (hown : OwnB w B v xs) (hB : B ≤ w.heap.size) (hb : xs.length + 8 ≤ 140737488355328) :
    Calls Try.prog 38 #[v, .int .i64 (size : Int), .int .u64 (n : Int)] w fun e w' => ∃ v', e = .returned v' ∧ OwnB w' B v' (xs ++ beBytes size n) ∧ w.grownBy w' v.ownBlock ∧ Since w v.ownBlock v'.ownBlock := by
  go_enter Try.func38, Try.ntmps38
  go_wp2
  go_loopw [0, 7] (fun u i wr => ∃ (k : Nat) (pre : List UInt8), k ≤ size ∧ i = .int .i64 ((k : Int) - 1) ∧ pre ++ beBytes k n = beBytes size n ∧ OwnB wr B u (xs ++ pre) ∧ w.grownBy wr v.ownBlock ∧ Since w v.ownBlock u.ownBlock)
    (fun _ i _ => (intOf i + 1).toNat)
  case atStart => exact ⟨size, [], Nat.le_refl _, rfl, rfl, by simpa using hown, World.grownBy.refl _ _, .inl rfl⟩
  case round =>
    obtain ⟨k, pre, hk, rfl, hpre, hown1, hg1, hat1⟩ := hrel
    have HP := hid hpre
    clear hpre
    by_cases h0 : k = 0
    · subst h0
      go_wp2
      go_ret
      refine ⟨u0, rfl, ?_, hg1, hat1⟩
      have := HP.out
      simp only [beBytes, List.append_nil] at this
      rw [← this]
      exact hown1
    · have hk1 : (1 : Int) ≤ (k : Int) := by omega
      have hk8 : (k : Int) ≤ 8 := by omega
      have hl : (xs ++ pre).length + 1 ≤ 140737488355328 := by
        have := congrArg List.length HP.out
        simp at this ⊢
        omega
      go_wp2_with (at_builtin; refine wpList_append_lie rfl _ _ 22 rfl B 5 (.int .u8 0) 1 Try.underlying22 infoU8 rfl rfl (World.ownsRow.alloc hown1 _) rfl rfl (Lie.new1 _ _ _) ?d0 ?d1 ?d2 ?d3 ?_)
      case d0 => intro u hu; simp at hu; subst hu; rfl
      case d1 => rw [List.length_singleton]; unfold maxLen; omega
      case d2 => rw [List.length_singleton]; omega
      case d3 => have := hg1.size; simp; omega
      intro v2 w2 hown2 hg2 hat2
      obtain ⟨j, rfl⟩ : ∃ j, k = j + 1 := ⟨k - 1, by omega⟩
      have hO : OwnB w2 B v2 (xs ++ (pre ++ [UInt8.ofNat (n / 256 ^ j)])) := by
        rw [← List.append_assoc]
        exact own_snoc hown2 (by simp) (by rw [Nat.add_sub_cancel]; exact shr_val n j)
      have hG : w.grownBy w2 v.ownBlock := grown_step (grown_alloc hg1 _) hat1 hg2
      have hS : Since w v.ownBlock v2.ownBlock := since_step hat1 hg1.size (since_of_at hat2 (by have := hg1.size; simp))
      have HN : Hid ((pre ++ [UInt8.ofNat (n / 256 ^ j)]) ++ beBytes j n = beBytes size n) := hid (by rw [← HP.out]; simp [beBytes])
      clear hown2 hg2 hat2 hown1 hg1 hat1 HP
      go_wp2
      go_roundw
      case rel => exact ⟨j, _, by omega, by go_num, HN.out, hO, hG, hS⟩
      case measure => simp [intOf]
end Go.Proofs.Ytkdpaaaleicopaa
