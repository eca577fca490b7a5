/-
  Texts of this claim in one file: Ref17a, Ref17c, Ref17d.
-/
import Derived.Test.YthooibljnfnnhaaPk12
import Derived.Test.YthooibljnfnnhaaPk5
import Derived.Test.YthooibljnfnnhaaPk2
import Derived.Test.YthooibljnfnnhaaPk3
section
namespace Go.Proofs.Ythooibljnfnnhaa
open Go Go.RowKit
set_option linter.unusedVariables false
set_option linter.unusedSimpArgs false
/-- The levels of a row of so many nodes. -/
def lvsK (L : Nat) : Option Nat := (List.range 17).find? fun K => decide (2 * 2 ^ K - 1 = L)
def lvsN (L : Nat) : Nat := match lvsK L with | some K => 2 ^ K | none => 0
theorem lvs_some {L K : Nat} (hK : K ≤ 16) (h : L = 2 * 2 ^ K - 1) : lvsK L = some K := by
  unfold lvsK
  rw [List.find?_range_eq_some]
  refine ⟨decide_eq_true h.symm, List.mem_range.2 (by omega), fun j hj => ?_⟩
  have := Nat.pow_lt_pow_right (show 1 < 2 by decide) hj
  simp only [Bool.not_eq_true', decide_eq_false_iff_not]
  have := Nat.two_pow_pos j
  omega
theorem lvs_sz {t : List Nd} {K : Nat} (h : Sz t K) : lvsK t.length = some K := lvs_some h.2 h.1
end Go.Proofs.Ythooibljnfnnhaa
end
section
namespace Go.Proofs.Ythooibljnfnnhaa
open Go Go.RowKit
set_option linter.unusedVariables false
set_option linter.unusedSimpArgs false
theorem memT_len (t : List Nd) (n : Nat) : (memT t n).length ≤ n := by unfold memT; exact Nat.le_trans (List.length_filter_le _ _) (by simp)
end Go.Proofs.Ythooibljnfnnhaa
end
section
namespace Go.Proofs.Ythooibljnfnnhaa
open Go Go.RowKit
set_option linter.unusedVariables false
set_option linter.unusedSimpArgs false
abbrev ndLL (n : Nd) (a : NA) : List Value := [.int .u8 (n.k : Int), .slice a.l.a0 n.x.box.length a.l.c0, .slice a.l.a1 n.x.sign.length a.l.c1, .slice a.l.a2 n.x.ident.length a.l.c2, .int .u8 (n.x.src : Int), .slice a.l.a3 n.x.par.length a.l.c3, .slice a.l.a4 n.x.sig.length a.l.c4, .slice a.p.a0 n.u.box.length a.p.c0, .slice a.p.a1 n.u.hash.length a.p.c1, .slice a.p.a2 n.u.late.length a.p.c2]
theorem rng_ll {w : World} {b o : Nat} {n : Nd} {a : NA} (h : w.rangeAt b o (ndL n a)) : w.rangeAt b o (ndLL n a) := h
end Go.Proofs.Ythooibljnfnnhaa
end
