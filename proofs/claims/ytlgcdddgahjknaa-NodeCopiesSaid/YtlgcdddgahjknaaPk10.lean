/-
  Texts of this claim in one file: SgF.
-/
import Derived.Test.YtlgcdddgahjknaaPk24
import Derived.Test.YtlgcdddgahjknaaPk2
import Derived.Great.Walk
import Derived.Test.YtlgcdddgahjknaaPk21
import Derived.Deep.RegionHeld3
section
namespace Go.Proofs.Ytlgcdddgahjknaa
open Go Go.RowKit
set_option linter.unusedVariables false
set_option linter.unusedSimpArgs false
theorem sq_drop {w : World} {B c b o : Nat} {xs : List UInt8} (h : Sq w B (some ⟨b, o, none⟩) c (bvs xs)) (k : Nat) (hk : k < xs.length) : Sq w B (some ⟨b, o + k, none⟩) (c - k) (bvs (xs.drop k)) := by
  rcases h with ⟨h, _⟩ | ⟨b', o', hA, hb, h1, h2, hc⟩
  · have : xs = [] := by unfold bvs at h; simpa using h
    rw [this] at hk; simp at hk
  · simp only [Option.some.injEq, Addr.mk.injEq] at hA
    obtain ⟨rfl, rfl, _⟩ := hA
    rw [bvs_length] at h1
    refine .inr ⟨b, o + k, rfl, hb, by rw [bvs_length, List.length_drop]; omega, by omega, fun j u hu => ?_⟩
    have := hc (k + j) u (by unfold bvs at hu ⊢; rw [List.map_drop, List.getElem?_drop] at hu; exact hu)
    rw [Nat.add_assoc]
    exact this
theorem sq_take {w : World} {B c : Nat} {A : Option Addr} {xs : List UInt8} (h : Sq w B A c (bvs xs)) (k : Nat) : Sq w B A c (bvs (xs.take k)) := by
  have h2 := h.take k
  unfold bvs at h2 ⊢
  rw [List.map_take]
  exact h2
end Go.Proofs.Ytlgcdddgahjknaa
end
