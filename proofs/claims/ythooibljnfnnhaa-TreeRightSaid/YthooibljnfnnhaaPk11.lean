/-
  Texts of this claim in one file: NdQ, NdR.
-/
import Derived.Test.YthooibljnfnnhaaPk10
import Derived.Test.YthooibljnfnnhaaPk8
section
namespace Go.Proofs.Ythooibljnfnnhaa
open Go Go.RowKit
set_option linter.unusedVariables false
set_option linter.unusedSimpArgs false
theorem leafB_len {x : Lf} (h : leafB x = true) : x.box.length = 32 ∧ x.sign.length = 32 ∧ (0 < x.ident.length ∧ x.ident.length ≤ 64) ∧ (0 < x.src ∧ x.src < 4) ∧ (x.par.length = 0 ∨ (x.src = 3 ∧ x.par.length = 32)) ∧ x.sig.length = 64 := by
  unfold leafB leafN at h
  simp only [Bool.and_eq_true, Bool.or_eq_true, decide_eq_true_eq] at h
  obtain ⟨⟨⟨⟨⟨⟨⟨h0, h1⟩, h2⟩, h3⟩, h4⟩, h5⟩, h6⟩, h7⟩ := h
  exact ⟨h0, h1, ⟨h2, h3⟩, ⟨h4, h5⟩, h6, h7⟩
end Go.Proofs.Ythooibljnfnnhaa
end
section
namespace Go.Proofs.Ythooibljnfnnhaa
open Go Go.RowKit
set_option linter.unusedVariables false
set_option linter.unusedSimpArgs false
theorem rise_in {l : List Int} (h : riseB l = true) : ∀ v ∈ l, 0 ≤ v ∧ v ≤ 65535 := fun v hv => by
  obtain ⟨i, hi, rfl⟩ := List.getElem_of_mem hv
  unfold riseB at h
  have := List.all_eq_true.1 h i (List.mem_range.2 hi)
  unfold badL at this
  rw [getD_of hi] at this
  simp only [Bool.not_eq_true', Bool.or_eq_false_iff, decide_eq_false_iff_not] at this
  omega
theorem rise_count {l : List Int} (h : riseB l = true) : l.length ≤ 65536 := by
  have hb : ∀ i, i < l.length → (i : Int) ≤ l.getD i 0 := by
    intro i
    induction i with
    | zero =>
      intro hi
      have := (rise_in h _ (List.getElem_mem hi)).1
      rw [getD_of hi]
      omega
    | succ i ih =>
      intro hi
      have h1 := ih (by omega)
      unfold riseB at h
      have h2 := List.all_eq_true.1 h (i + 1) (List.mem_range.2 hi)
      unfold badL at h2
      simp only [Bool.not_eq_true', Bool.or_eq_false_iff, Bool.and_eq_false_iff, decide_eq_false_iff_not, Nat.add_sub_cancel] at h2
      rcases h2.2 with h3 | h3
      · omega
      · omega
  apply Nat.le_of_not_lt
  intro hc
  have h1 := hb 65536 hc
  have h2 := (rise_in h _ (List.getElem_mem hc)).2
  rw [getD_of hc] at h1
  omega
theorem parB_len {u : Pnt} (h : parB u = true) : riseB u.late = true ∧ u.box.length = 32 ∧ (u.hash.length = 0 ∨ u.hash.length = 32) := by
  unfold parB at h
  simp only [Bool.and_eq_true, Bool.or_eq_true, decide_eq_true_eq] at h
  exact h
theorem empty_pr {u : Pnt} (h : emptyPr u = true) : u = pr0 := by
  unfold emptyPr sameNd sameLf at h
  simp only [Bool.and_eq_true, beq_iff_eq] at h
  obtain ⟨⟨⟨-, h1⟩, h2⟩, h3⟩ := h
  cases u
  simp only at h1 h2 h3
  subst h1; subst h2; subst h3
  rfl
theorem empties : emptyLf lf0 = true ∧ emptyPr pr0 = true := by decide
end Go.Proofs.Ythooibljnfnnhaa
end
