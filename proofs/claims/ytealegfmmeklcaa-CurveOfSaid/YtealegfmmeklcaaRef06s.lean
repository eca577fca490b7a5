/-
  Which of the document's numbers are the same.
-/
import Derived.Test.YtealegfmmeklcaaBigB
namespace Go.Proofs.Ytealegfmmeklcaa
open Go.RowKit
set_option linter.unusedVariables false
set_option linter.unusedSimpArgs false

theorem Same6_any (a b : Nat) (A A' : Option Addr) (c c' B B' : Nat) (w : World) (hS : Sq w B A c (ivs (dg a))) (hS' : Sq w B' A' c' (ivs (dg b))) (ha : a < 32768 ^ 50) (hb : b < 32768 ^ 50) :
    Calls Try.prog 19 #[.slice A (dg a).length c, .slice A' (dg b).length c'] w fun e w' => e = .returned (.bool (decide (a = b))) ∧ ∃ n, w' = w.drewN n := by
  have C := Less_any a b A A' c c' B B' w hS hS' (Nat.le_trans (dgl6 a ha) (by omega))
  have D := fun n => Less_any b a A' A c' c B' B (w.drewN n) hS' hS (Nat.le_trans (dgl6 b hb) (by omega))
  clear hS hS' ha hb
  by_cases h1 : a < b
  · rw [decide_eq_true h1] at C
    have HC := hid C
    have HE := hid (decide_eq_false (show ¬ a = b by omega))
    clear C D h1
    go_enter Try.func19, Try.ntmps19
    go_wp2_with fail
    refine HC.out.mono ?_
    rintro e w1 ⟨rfl, q1, rfl⟩
    go_wp2
    go_ret
    exact ⟨by rw [HE.out]; rfl, q1, rfl⟩
  · rw [decide_eq_false h1] at C
    by_cases h2 : b < a
    · have HE := hid (decide_eq_false (show ¬ a = b by omega))
      simp only [decide_eq_true h2] at D
      have HC := hid C; have HD := hid D
      clear C D h1 h2
      go_enter Try.func19, Try.ntmps19
      go_wp2_with fail
      refine HC.out.mono ?_
      rintro e w1 ⟨rfl, q1, rfl⟩
      go_wp2_with fail
      refine (HD.out q1).mono ?_
      rintro e w2 ⟨rfl, q2, rfl⟩
      go_wp2
      go_ret
      exact ⟨by rw [HE.out]; rfl, _, rfl⟩
    · have HE := hid (decide_eq_true (show a = b by omega))
      simp only [decide_eq_false h2] at D
      have HC := hid C; have HD := hid D
      clear C D h1 h2
      go_enter Try.func19, Try.ntmps19
      go_wp2_with fail
      refine HC.out.mono ?_
      rintro e w1 ⟨rfl, q1, rfl⟩
      go_wp2_with fail
      refine (HD.out q1).mono ?_
      rintro e w2 ⟨rfl, q2, rfl⟩
      go_wp2
      go_ret
      exact ⟨by rw [HE.out]; rfl, _, rfl⟩
end Go.Proofs.Ytealegfmmeklcaa
