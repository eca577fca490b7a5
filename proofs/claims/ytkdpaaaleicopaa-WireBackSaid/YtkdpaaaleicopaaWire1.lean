/-
  Package wire, the putting side, function by function: what each returns and what becomes of memory.
-/
import Derived.Test.YtkdpaaaleicopaaBytes
namespace Go.Proofs.Ytkdpaaaleicopaa
open Go.RowKit
set_option linter.unusedVariables false
set_option linter.unusedSimpArgs false

theorem isNumSize_yes (n : Int) (w : World) (h : n = 1 ∨ n = 2 ∨ n = 4 ∨ n = 8) :
    Calls Try.prog 35 #[.int .i64 n] w fun e w' => e = .returned (.bool true) ∧ w = w' := by
  rcases h with rfl | rfl | rfl | rfl
  all_goals
    go_enter Try.func35, Try.ntmps35
    go_wp2
    go_ret
    exact ⟨rfl, rfl⟩

def lenSz (n : Int) : Int := if n < 0 ∨ 1073741824 ≤ n then 0 else if n < 64 then 1 else if n < 16384 then 2 else 4

theorem LenSize_any (n : Int) (w : World) :
    Calls Try.prog 12 #[.int .i64 n] w fun e w' => e = .returned (.int .i64 (lenSz n)) ∧ w = w' := by
  unfold lenSz
  by_cases h0 : n < 0
  · go_enter Try.func12, Try.ntmps12
    go_wp2
    go_ret
    simp [h0]
  · by_cases h1 : 1073741824 ≤ n
    · go_enter Try.func12, Try.ntmps12
      go_wp2
      go_ret
      simp [h1]
    · by_cases h2 : n < 64
      · go_enter Try.func12, Try.ntmps12
        go_wp2
        go_ret
        simp [h0, h1, h2]
      · by_cases h3 : n < 16384
        all_goals
          go_enter Try.func12, Try.ntmps12
          go_wp2
          go_ret
          simp [h0, h1, h2, h3]

theorem roomy_any (A : Option Addr) (xs : List UInt8) (c m : Nat) (w : World) (hA : Lie w w.heap.size A (bvs xs)) (hb : xs.length + m ≤ 140737488355328) :
    Calls Try.prog 32 #[.slice A xs.length c, .int .i64 (m : Int)] w fun e w' => ∃ v, e = .returned v ∧ OwnB w' w.heap.size v xs ∧ Below w.heap.size w w' := by
  obtain ⟨i0, hi, hz0, hz1, hz2⟩ := info_parts infoU8
  go_enter Try.func32, Try.ntmps32
  go_wp2_with (at_make; refine wpList_make_own _ rfl _ _ 22 rfl w.heap.size 5 i0 (.int .u8 0) 1 Try.underlying22 hi hz0 hz1 _ _ _ (xs.length + m) rfl rfl ?c1 ?c2 ?c3 (Nat.le_refl _) ?_)
  case c1 => simp
  case c2 => rw [hz2]; omega
  case c3 => unfold maxLen; omega
  intro w1 hown hg
  have hA1 : Lie w1 w.heap.size A (bvs xs) := hA.grown hg (Nat.le_refl _) (fun _ h => by cases h)
  go_wp2_with (at_builtin; refine wpList_append_lie rfl _ _ 22 rfl w.heap.size 5 (.int .u8 0) 1 Try.underlying22 infoU8 rfl rfl hown (bvs_length xs) rfl hA1 (bvs_one xs) ?d1 ?d2 ?d3 ?_)
  case d1 => unfold maxLen; omega
  case d2 => omega
  case d3 => exact hg.size
  intro v2 w2 hown2 hg2 _
  go_wp2
  go_ret
  exact ⟨v2, rfl, by simpa [OwnB] using hown2, ((Below.refl _ _).grown hg (Nat.le_refl _) (fun _ h => by cases h)).grown hg2 hg.size (own_lt hown)⟩
end Go.Proofs.Ytkdpaaaleicopaa
