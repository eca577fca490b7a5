/-
  Texts of this claim in one file: Base.
-/
import Derived.WalkKit
import Derived.Below
import Derived.Laws.OwnMore
import Derived.Maps.AppendAt
import Derived.Deep.AppendLies
import Derived.Deep.Draws
import Derived.Test.YtmipocpajglbaaaProg
import Derived.Deep.LoopGhost
import Derived.Deep.QuietTactic
import Derived.BigQuiet
import Derived.ScopeJumps
import Derived.Deep.RegionHeld3
section
namespace Go.Proofs.Ytmipocpajglbaaa
section
open Go.RowKit
theorem hid {p : Prop} (h : p) : Hid p := h
/-- The cells cs lie one behind the other from A on, in a block below B. Of an empty list nothing is said. -/
def Lie (w : World) (B : Nat) (A : Option Addr) (cs : List Value) : Prop :=
  cs ≠ [] → ∃ b o, A = some ⟨b, o, none⟩ ∧ b < B ∧ ∀ j u, cs[j]? = some u → w.cell? ⟨b, o + j, none⟩ = some u
section
variable {w w' : World} {B B' : Nat} {A : Option Addr} {cs : List Value}
theorem Lie.nil : Lie w B A [] := fun h => absurd rfl h
theorem Lie.keep (h : Lie w B A cs) (hk : ∀ b o, b < B → w'.cell? ⟨b, o, none⟩ = w.cell? ⟨b, o, none⟩) : Lie w' B A cs := fun hn => by
  obtain ⟨b, o, hA, hb, hc⟩ := h hn
  exact ⟨b, o, hA, hb, fun j u hu => (hk b _ hb).trans (hc j u hu)⟩
theorem Lie.more (h : Lie w B A cs) (hB : B ≤ B') : Lie w B' A cs := fun hn => by
  obtain ⟨b, o, hA, hb, hc⟩ := h hn
  exact ⟨b, o, hA, Nat.lt_of_lt_of_le hb hB, hc⟩
theorem Lie.below (h : Lie w B A cs) (hb : Below B w w') : Lie w' B A cs := h.keep fun b o hlt => hb.cell (p := ⟨b, o, none⟩) hlt
theorem Lie.drew (h : Lie w B A cs) : Lie w.drew B A cs := h
theorem Lie.drewN (h : Lie w B A cs) (n : Nat) : Lie (w.drewN n) B A cs := h
theorem Lie.alloc (h : Lie w B A cs) (hB : B ≤ w.heap.size) (o : Obj) : Lie (w.alloc o) B A cs :=
  h.keep fun b i hlt => World.cell?_alloc_lt w o ⟨b, i, none⟩ (Nat.lt_of_lt_of_le hlt hB)
theorem Lie.setCell (h : Lie w B A cs) {p : Addr} (hB : B ≤ p.block) (u : Value) : Lie (w.setCell p u) B A cs :=
  h.keep fun b i hlt => World.cell?_setCell_other w p ⟨b, i, none⟩ u (fun e => by subst e; exact absurd hB (Nat.not_le_of_lt hlt))
theorem Lie.grown (h : Lie w B A cs) {row : Option Nat} (hg : w.grownBy w' row) (hB : B ≤ w.heap.size) (hr : ∀ g, row = some g → B ≤ g) : Lie w' B A cs :=
  h.keep fun b i hlt => World.cell?_of_block (a := ⟨b, i, none⟩) (hg.block b (Nat.lt_of_lt_of_le hlt hB) (fun e => absurd (hr b e.symm) (Nat.not_le_of_lt hlt)))
/-- The cell at place k, where there is one. -/
theorem Lie.at_ (h : Lie w B A cs) {k : Nat} (hk : k < cs.length) : ∃ b o, A = some ⟨b, o, none⟩ ∧ b < B ∧ w.cell? ⟨b, o + k, none⟩ = some cs[k] := by
  obtain ⟨b, o, hA, hb, hc⟩ := h (fun e => by subst e; simp at hk)
  exact ⟨b, o, hA, hb, hc k _ (List.getElem?_eq_getElem hk)⟩
theorem Lie.take (h : Lie w B A cs) (n : Nat) : Lie w B A (cs.take n) := fun hn => by
  obtain ⟨b, o, hA, hb, hc⟩ := h (fun e => hn (by rw [e]; simp))
  refine ⟨b, o, hA, hb, fun j u hu => hc j u ?_⟩
  rw [List.getElem?_take] at hu
  split at hu
  · exact hu
  · cases hu
/-- The cells behind the first k: where a cut s[k:] of one-cell elements points, as the walk spells it. -/
theorem Lie.drop {b o : Nat} {sp : Option Nat} (h : Lie w B (some ⟨b, o, sp⟩) cs) (k : Nat) : Lie w B (some ⟨b, o + k, sp⟩) (cs.drop k) := fun hn => by
  obtain ⟨b', o', hA, hb, hc⟩ := h (fun e => hn (by rw [e]; simp))
  simp only [Option.some.injEq, Addr.mk.injEq] at hA
  obtain ⟨rfl, rfl, rfl⟩ := hA
  exact ⟨b, o + k, rfl, hb, fun j u hu => by rw [List.getElem?_drop] at hu; rw [Nat.add_assoc]; exact hc _ u hu⟩
end
/-- A slice with its capacity: nil, or the cells xs from A on, in a block below B. -/
def Sl (w : World) (B : Nat) (A : Option Addr) (c : Nat) (xs : List Value) : Prop :=
  (A = none ∧ c = 0 ∧ xs = []) ∨ ∃ b o, A = some ⟨b, o, none⟩ ∧ b < B ∧ xs.length ≤ c ∧ c ≤ 9223372036854775807 ∧ ∀ j u, xs[j]? = some u → w.cell? ⟨b, o + j, none⟩ = some u
section
variable {w w' : World} {B B' : Nat} {A : Option Addr} {c : Nat} {xs : List Value}
theorem Sl.lie (h : Sl w B A c xs) : Lie w B A xs := by
  rcases h with ⟨_, _, rfl⟩ | ⟨b, o, hA, hb, _, _, hc⟩
  · exact Lie.nil
  · exact fun _ => ⟨b, o, hA, hb, hc⟩
theorem Sl.cap (h : Sl w B A c xs) : xs.length ≤ c ∧ c ≤ 9223372036854775807 := by
  rcases h with ⟨_, rfl, rfl⟩ | ⟨b, o, _, _, h1, h2, _⟩
  · exact ⟨Nat.le_refl _, by omega⟩
  · exact ⟨h1, h2⟩
theorem Sl.nil : Sl w B none 0 [] := .inl ⟨rfl, rfl, rfl⟩
theorem Sl.keep (h : Sl w B A c xs) (hk : ∀ b o, b < B → w'.cell? ⟨b, o, none⟩ = w.cell? ⟨b, o, none⟩) : Sl w' B A c xs := by
  rcases h with h | ⟨b, o, hA, hb, h1, h2, hc⟩
  · exact .inl h
  · exact .inr ⟨b, o, hA, hb, h1, h2, fun j u hu => (hk b _ hb).trans (hc j u hu)⟩
theorem Sl.more (h : Sl w B A c xs) (hB : B ≤ B') : Sl w B' A c xs := by
  rcases h with h | ⟨b, o, hA, hb, h1, h2, hc⟩
  · exact .inl h
  · exact .inr ⟨b, o, hA, Nat.lt_of_lt_of_le hb hB, h1, h2, hc⟩
theorem Sl.below (h : Sl w B A c xs) (hb : Below B w w') : Sl w' B A c xs := h.keep fun b o hlt => hb.cell (p := ⟨b, o, none⟩) hlt
theorem Sl.drewN (h : Sl w B A c xs) (n : Nat) : Sl (w.drewN n) B A c xs := h
theorem Sl.alloc (h : Sl w B A c xs) (hB : B ≤ w.heap.size) (o : Obj) : Sl (w.alloc o) B A c xs :=
  h.keep fun b i hlt => World.cell?_alloc_lt w o ⟨b, i, none⟩ (Nat.lt_of_lt_of_le hlt hB)
theorem Sl.setCell (h : Sl w B A c xs) {p : Addr} (hB : B ≤ p.block) (u : Value) : Sl (w.setCell p u) B A c xs :=
  h.keep fun b i hlt => World.cell?_setCell_other w p ⟨b, i, none⟩ u (fun e => by subst e; exact absurd hB (Nat.not_le_of_lt hlt))
theorem Sl.grown (h : Sl w B A c xs) {row : Option Nat} (hg : w.grownBy w' row) (hB : B ≤ w.heap.size) (hr : ∀ g, row = some g → B ≤ g) : Sl w' B A c xs :=
  h.keep fun b i hlt => World.cell?_of_block (a := ⟨b, i, none⟩) (hg.block b (Nat.lt_of_lt_of_le hlt hB) (fun e => absurd (hr b e.symm) (Nat.not_le_of_lt hlt)))
/-- The first n cells, with the same capacity. -/
theorem Sl.take (h : Sl w B A c xs) (n : Nat) : Sl w B A c (xs.take n) := by
  rcases h with ⟨h1, h2, rfl⟩ | ⟨b, o, hA, hb, h1, h2, hc⟩
  · exact .inl ⟨h1, h2, by simp⟩
  · refine .inr ⟨b, o, hA, hb, by rw [List.length_take]; omega, h2, fun j u hu => hc j u ?_⟩
    rw [List.getElem?_take] at hu
    split at hu
    · exact hu
    · cases hu
/-- What is behind the first k, where it doesn't stand at the capacity's end. -/
theorem Sl.drop {b o : Nat} {sp : Option Nat} (h : Sl w B (some ⟨b, o, sp⟩) c xs) (k : Nat) (hk : k < c) : Sl w B (some ⟨b, o + k, sp⟩) (c - k) (xs.drop k) := by
  rcases h with ⟨h, _⟩ | ⟨b', o', hA, hb, h1, h2, hc⟩
  · cases h
  · simp only [Option.some.injEq, Addr.mk.injEq] at hA
    obtain ⟨rfl, rfl, rfl⟩ := hA
    exact .inr ⟨b, o + k, rfl, hb, by rw [List.length_drop]; omega, by omega, fun j u hu => by rw [List.getElem?_drop] at hu; rw [Nat.add_assoc]; exact hc _ u hu⟩
end
/-- Of two rows the second is the first, or a new one since w. -/
def Since (w : World) (row row' : Option Nat) : Prop := row' = row ∨ ∃ g, row' = some g ∧ w.heap.size ≤ g
theorem Since.refl (w : World) (row : Option Nat) : Since w row row := .inl rfl
theorem add_none (b o n : Nat) : (⟨b, o, none⟩ : Addr).add n = ⟨b, o + n, none⟩ := by unfold Addr.add; split <;> simp_all
/-- A block of cells after a store into one of them. -/
theorem block_set {w : World} {g : Nat} {cs : Array Value} {t : TypeId} (h : w.heap[g]? = some (.cells cs t (0, 0))) (i : Nat) (u : Value) : (w.setCell ⟨g, i, none⟩ u).heap[g]? = some (.cells (cs.setIfInBounds i u) t (0, 0)) := heap_setCell_same w g i cs t u h
theorem cell_of {w : World} {g : Nat} {cs : Array Value} {t : TypeId} (h : w.heap[g]? = some (.cells cs t (0, 0))) (i : Nat) (v : Value) (hv : cs[i]? = some v) : w.cell? ⟨g, i, none⟩ = some v := by
  rw [cell_of_row w g i cs t (0, 0) h, hv]
theorem block_lt {w : World} {g : Nat} {o : Obj} (h : w.heap[g]? = some o) : g < w.heap.size := (Array.getElem?_eq_some_iff.1 h).1
/-- A new block. -/
theorem Lie.newA (w : World) (cs : Array Value) (t : TypeId) : Lie (w.alloc (.cells cs t)) (w.heap.size + 1) (some ⟨w.heap.size, 0, none⟩) cs.toList := fun _ =>
  ⟨w.heap.size, 0, rfl, Nat.lt_succ_self _, fun j u hu => by
    rw [Nat.zero_add, cell_of_row _ w.heap.size j cs t (0, 0) (heap_alloc_new w _)]
    simpa using hu⟩
section
variable {P : Program} {w : World}
end
end
section
open Go.RowKit
set_option linter.unusedVariables false
set_option linter.unusedSimpArgs false
/-- Bytes as cells. -/
def bvs (xs : List UInt8) : List Value := xs.map fun x => .int .u8 (x.toNat : Int)
@[simp] theorem bvs_length (xs : List UInt8) : (bvs xs).length = xs.length := by simp [bvs]
/-- A slice of byte slices lies below B and reads as ls. -/
def Rows2 (w : World) (B : Nat) (A : Option Addr) (ls : List (List UInt8)) : Prop :=
  ∃ vs : List Value, vs.length = ls.length ∧ Lie w B A vs ∧ ∀ (j : Nat) (x : List UInt8), ls[j]? = some x → ∃ A' c, vs[j]? = some (.slice A' x.length c) ∧ Lie w B A' (bvs x)
section
variable {w w' : World} {B B' : Nat} {A : Option Addr} {ls : List (List UInt8)}
theorem Rows2.nil : Rows2 w B A [] := ⟨[], rfl, Lie.nil, fun j x h => by simp at h⟩
theorem Rows2.keep (h : Rows2 w B A ls) (hk : ∀ b o, b < B → w'.cell? ⟨b, o, none⟩ = w.cell? ⟨b, o, none⟩) : Rows2 w' B A ls := by
  obtain ⟨vs, hl, hv, he⟩ := h
  refine ⟨vs, hl, hv.keep hk, fun j x hx => ?_⟩
  obtain ⟨A', c, h1, h2⟩ := he j x hx
  exact ⟨A', c, h1, h2.keep hk⟩
theorem Rows2.more (h : Rows2 w B A ls) (hB : B ≤ B') : Rows2 w B' A ls := by
  obtain ⟨vs, hl, hv, he⟩ := h
  refine ⟨vs, hl, hv.more hB, fun j x hx => ?_⟩
  obtain ⟨A', c, h1, h2⟩ := he j x hx
  exact ⟨A', c, h1, h2.more hB⟩
theorem Rows2.below (h : Rows2 w B A ls) (hb : Below B w w') : Rows2 w' B A ls := h.keep fun b o hlt => hb.cell (p := ⟨b, o, none⟩) hlt
theorem Rows2.drewN (h : Rows2 w B A ls) (n : Nat) : Rows2 (w.drewN n) B A ls := h
theorem Rows2.at_ (h : Rows2 w B A ls) {k : Nat} (hk : k < ls.length) : ∃ b o A' c, A = some ⟨b, o, none⟩ ∧ b < B ∧ w.cell? ⟨b, o + k, none⟩ = some (.slice A' ls[k].length c) ∧ Lie w B A' (bvs ls[k]) := by
  obtain ⟨vs, hl, hv, he⟩ := h
  obtain ⟨A', c, h1, h2⟩ := he k ls[k] (List.getElem?_eq_getElem hk)
  obtain ⟨b, o, hA, hb, hc⟩ := hv.at_ (k := k) (by omega)
  rw [List.getElem?_eq_getElem (by omega)] at h1
  injection h1 with h1
  exact ⟨b, o, A', c, hA, hb, by rw [hc, h1], h2⟩
end
end
end Go.Proofs.Ytmipocpajglbaaa
end
