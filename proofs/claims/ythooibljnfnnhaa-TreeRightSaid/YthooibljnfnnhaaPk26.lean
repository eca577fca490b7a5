/-
  Texts of this claim in one file: ShaS.
-/
import Derived.Test.YthooibljnfnnhaaPk25
section
namespace Go.Proofs.Ythooibljnfnnhaa
open Go.RowKit
set_option linter.unusedVariables false
set_option linter.unusedSimpArgs false
/-- The cells xs from A on, in a block below B, or nothing at all. -/
def Sq (w : World) (B : Nat) (A : Option Addr) (c : Nat) (xs : List Value) : Prop :=
  (xs = [] ∧ c ≤ 9223372036854775807) ∨ ∃ b o, A = some ⟨b, o, none⟩ ∧ b < B ∧ xs.length ≤ c ∧ c ≤ 9223372036854775807 ∧ ∀ j u, xs[j]? = some u → w.cell? ⟨b, o + j, none⟩ = some u
theorem Sl.sq {w : World} {B : Nat} {A : Option Addr} {c : Nat} {xs : List Value} (h : Sl w B A c xs) : Sq w B A c xs := by
  rcases h with ⟨_, rfl, rfl⟩ | h
  · exact .inl ⟨rfl, by omega⟩
  · exact .inr h
theorem Lie.sq {w : World} {B : Nat} {A : Option Addr} {c : Nat} {xs : List Value} (h : Lie w B A xs) (h1 : xs.length ≤ c) (h2 : c ≤ 9223372036854775807) : Sq w B A c xs := by
  by_cases hx : xs = []
  · exact .inl ⟨hx, h2⟩
  · obtain ⟨b, o, hA, hb, hc⟩ := h hx
    exact .inr ⟨b, o, hA, hb, h1, h2, hc⟩
section
variable {w w' : World} {B B' : Nat} {A : Option Addr} {c : Nat} {xs : List Value}
theorem Sq.lie (h : Sq w B A c xs) : Lie w B A xs := by
  rcases h with ⟨rfl, _⟩ | ⟨b, o, hA, hb, _, _, hc⟩
  · exact Lie.nil
  · exact fun _ => ⟨b, o, hA, hb, hc⟩
theorem Sq.cap (h : Sq w B A c xs) : xs.length ≤ c ∧ c ≤ 9223372036854775807 := by
  rcases h with ⟨rfl, h⟩ | ⟨b, o, _, _, h1, h2, _⟩
  · exact ⟨by simp, h⟩
  · exact ⟨h1, h2⟩
theorem Sq.nil : Sq w B none 0 [] := .inl ⟨rfl, by omega⟩
theorem Sq.keep (h : Sq w B A c xs) (hk : ∀ b o, b < B → w'.cell? ⟨b, o, none⟩ = w.cell? ⟨b, o, none⟩) : Sq w' B A c xs := by
  rcases h with h | ⟨b, o, hA, hb, h1, h2, hc⟩
  · exact .inl h
  · exact .inr ⟨b, o, hA, hb, h1, h2, fun j u hu => (hk b _ hb).trans (hc j u hu)⟩
theorem Sq.more (h : Sq w B A c xs) (hB : B ≤ B') : Sq w B' A c xs := by
  rcases h with h | ⟨b, o, hA, hb, h1, h2, hc⟩
  · exact .inl h
  · exact .inr ⟨b, o, hA, Nat.lt_of_lt_of_le hb hB, h1, h2, hc⟩
theorem Sq.below (h : Sq w B A c xs) (hb : Below B w w') : Sq w' B A c xs := h.keep fun b o hlt => hb.cell (p := ⟨b, o, none⟩) hlt
theorem Sq.alloc (h : Sq w B A c xs) (hB : B ≤ w.heap.size) (o : Obj) : Sq (w.alloc o) B A c xs :=
  h.keep fun b i hlt => World.cell?_alloc_lt w o ⟨b, i, none⟩ (Nat.lt_of_lt_of_le hlt hB)
theorem Sq.grown (h : Sq w B A c xs) {row : Option Nat} (hg : w.grownBy w' row) (hB : B ≤ w.heap.size) (hr : ∀ g, row = some g → B ≤ g) : Sq w' B A c xs :=
  h.keep fun b i hlt => World.cell?_of_block (a := ⟨b, i, none⟩) (hg.block b (Nat.lt_of_lt_of_le hlt hB) (fun e => absurd (hr b e.symm) (Nat.not_le_of_lt hlt)))
/-- What is behind the first k, where it doesn't stand at the capacity's end. -/
theorem Sq.drop {b o : Nat} {sp : Option Nat} (h : Sq w B (some ⟨b, o, sp⟩) c xs) (k : Nat) (hk : k < c) : Sq w B (some ⟨b, o + k, sp⟩) (c - k) (xs.drop k) := by
  rcases h with ⟨rfl, h⟩ | ⟨b', o', hA, hb, h1, h2, hc⟩
  · exact .inl ⟨by simp, by omega⟩
  · simp only [Option.some.injEq, Addr.mk.injEq] at hA
    obtain ⟨rfl, rfl, rfl⟩ := hA
    exact .inr ⟨b, o + k, rfl, hb, by rw [List.length_drop]; omega, by omega, fun j u hu => by rw [List.getElem?_drop] at hu; rw [Nat.add_assoc]; exact hc _ u hu⟩
/-- Not in block g, where it is anything. -/
def NotIn (A : Option Addr) (xs : List Value) (g : Nat) : Prop := xs ≠ [] → ∀ b o sp, A = some ⟨b, o, sp⟩ → b ≠ g
/-- A slice that lies elsewhere stays. -/
theorem Sq.other {g : Nat} (h : Sq w B A c xs) (hg : w.grownBy w' (some g)) (hB : B ≤ w.heap.size) (hne : NotIn A xs g) : Sq w' B A c xs := by
  by_cases hx : xs = []
  · exact .inl ⟨hx, h.cap.2⟩
  rcases h with h | ⟨b, o, hA, hb, h1, h2, hc⟩
  · exact .inl h
  · refine .inr ⟨b, o, hA, hb, h1, h2, fun j u hu => ?_⟩
    have hn := hne hx b o none hA
    exact (World.cell?_of_block (a := ⟨b, o + j, none⟩) (hg.block b (by omega) (by simpa using hn))).trans (hc j u hu)
theorem Sq.lt (h : Sq w B A c xs) (hx : xs ≠ []) : ∀ b o sp, A = some ⟨b, o, sp⟩ → b < B := fun b o sp e => by
  rcases h with ⟨h, _⟩ | ⟨b', o', h, hb, _⟩
  · exact absurd h hx
  · rw [h] at e; simp only [Option.some.injEq, Addr.mk.injEq] at e; rw [← e.1]; exact hb
theorem Sq.notIn (h : Sq w B A c xs) {g : Nat} (hg : B ≤ g) : NotIn A xs g := fun hx b o sp e => by have := h.lt hx b o sp e; omega
end
/-- The first n. -/
theorem Sq.take {w : World} {B c : Nat} {A : Option Addr} {xs : List Value} (h : Sq w B A c xs) (n : Nat) : Sq w B A c (xs.take n) := by
  rcases h with ⟨rfl, h⟩ | ⟨b, o, hA, hb, h1, h2, hc⟩
  · exact .inl ⟨by simp, h⟩
  · refine .inr ⟨b, o, hA, hb, by rw [List.length_take]; omega, h2, fun j u hu => hc j u ?_⟩
    rw [List.getElem?_take] at hu
    split at hu
    · exact hu
    · cases hu
end Go.Proofs.Ythooibljnfnnhaa
end
