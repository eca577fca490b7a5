/-
  Texts of this claim in one file: ShaP, Sha1, Sha2, Sha4, Sha5, Sha7, Sha9, ShaT.
-/
import Derived.Test.YtgehfbcagaaggaaGreatDoorPk30
import Derived.Laws.BitsAllLaws
import Derived.Laws.Unary
import Derived.StillTailTactics
import Derived.Deep.WholeRow
import Derived.Test.YtgehfbcagaaggaaGreatDoorPk31
import Derived.ScopeJumps
import Derived.WalkMore
import Derived.Deep.RegionWith
import Derived.Deep.RegionLaw
import Derived.Deep.MidRow
import Derived.Laws.CopyOwn
import Derived.Test.YtgehfbcagaaggaaGreatDoorPk28
import Derived.Deep.DeepCutAuto
import Derived.Deep.RegionHeld3
import Derived.Test.YtgehfbcagaaggaaGreatDoorPk2
import Derived.Lib.SlBytesConst
section
namespace Go.Proofs.YtgehfbcagaaggaaGreatDoor
section
set_option linter.unusedVariables false
set_option linter.unusedSimpArgs false
/-- x turned right by n of 32 bits. -/
def rotr (x n : Nat) : Nat := x / 2 ^ n + x % 2 ^ n * 2 ^ (32 - n)
def S0 (x : Nat) : Nat := rotr x 2 ^^^ rotr x 13 ^^^ rotr x 22
def S1 (x : Nat) : Nat := rotr x 6 ^^^ rotr x 11 ^^^ rotr x 25
def s0 (x : Nat) : Nat := rotr x 7 ^^^ rotr x 18 ^^^ x / 8
def s1 (x : Nat) : Nat := rotr x 17 ^^^ rotr x 19 ^^^ x / 1024
structure St8 where
  a : Nat
  b : Nat
  c : Nat
  d : Nat
  e : Nat
  f : Nat
  g : Nat
  h : Nat
deriving DecidableEq
def St8.list (s : St8) : List Nat := [s.a, s.b, s.c, s.d, s.e, s.f, s.g, s.h]
def St8.ok (s : St8) : Prop := s.a < 4294967296 ∧ s.b < 4294967296 ∧ s.c < 4294967296 ∧ s.d < 4294967296 ∧ s.e < 4294967296 ∧ s.f < 4294967296 ∧ s.g < 4294967296 ∧ s.h < 4294967296
def word32 (x : Nat) : List UInt8 := [UInt8.ofNat (x / 16777216), UInt8.ofNat (x / 65536), UInt8.ofNat (x / 256), UInt8.ofNat x]
def St8.bytes (s : St8) : List UInt8 := s.list.flatMap word32
@[simp] theorem St8.list_length (s : St8) : s.list.length = 8 := rfl
end
section
set_option linter.unusedVariables false
set_option linter.unusedSimpArgs false
@[simp] theorem word32_length (x : Nat) : (word32 x).length = 4 := rfl
end
section
set_option linter.unusedVariables false
set_option linter.unusedSimpArgs false
end
end Go.Proofs.YtgehfbcagaaggaaGreatDoor
end
section
namespace Go.Proofs.YtgehfbcagaaggaaGreatDoor
open Go.RowKit
set_option linter.unusedVariables false
set_option linter.unusedSimpArgs false
theorem ret_int {k : IntKind} {a b : Int} (h : a = b) : Ending.returned (.int k a) = .returned (.int k b) := by rw [h]
end Go.Proofs.YtgehfbcagaaggaaGreatDoor
end
section
namespace Go.Proofs.YtgehfbcagaaggaaGreatDoor
open Go.RowKit
set_option linter.unusedVariables false
set_option linter.unusedSimpArgs false
theorem below_drewN {B : Nat} {a w : World} (h : Below B a w) (n : Nat) : Below B a (w.drewN n) := ⟨h.os, h.tape, h.output, h.size, h.block⟩
theorem below_setRow {B : Nat} {a w : World} (h : Below B a w) {g : Nat} (hg : B ≤ g) (cs : Array Value) : Below B a (w.setRow g cs) :=
  ⟨h.os, h.tape, h.output, by rw [size_setRow]; exact h.size, fun k hk => (setRow_other w g k cs (by omega)).trans (h.block k hk)⟩
end Go.Proofs.YtgehfbcagaaggaaGreatDoor
end
section
namespace Go.Proofs.YtgehfbcagaaggaaGreatDoor
open Go.RowKit
set_option linter.unusedVariables false
set_option linter.unusedSimpArgs false
/-- If the second lies anywhere, it lies in the first one's block. -/
def SameBlk (A A' : Option Addr) : Prop := ∀ b o sp, A' = some ⟨b, o, sp⟩ → ∃ o0 sp0, A = some ⟨b, o0, sp0⟩
end Go.Proofs.YtgehfbcagaaggaaGreatDoor
end
section
namespace Go.Proofs.YtgehfbcagaaggaaGreatDoor
open Go.RowKit
set_option linter.unusedVariables false
set_option linter.unusedSimpArgs false
/-- Bytes as an array. -/
def byA (xs : List UInt8) : Array Value := (bvs xs).toArray
theorem byA_one (xs : List UInt8) : (byA xs).all (·.oneCell') = true := by
  rw [Array.all_eq_true']
  intro v hv
  exact bvs_one xs v (by simpa [byA] using hv)
end Go.Proofs.YtgehfbcagaaggaaGreatDoor
end
section
namespace Go.Proofs.YtgehfbcagaaggaaGreatDoor
open Go.RowKit
set_option linter.unusedVariables false
set_option linter.unusedSimpArgs false
/-- Cells laid over a known block. -/
theorem heap_setCells {w : World} {g : Nat} {cur : Array Value} {t : TypeId} (vs : List Value) (h : w.heap[g]? = some (.cells cur t (0, 0))) (o : Nat) (hf : o + vs.length ≤ cur.size) :
    (w.setCells g o vs).heap[g]? = some (.cells (cur.toList.take o ++ (vs ++ cur.toList.drop (o + vs.length))).toArray t (0, 0)) := by
  induction vs generalizing w o cur with
  | nil => simpa [World.setCells] using h
  | cons v l ih =>
    simp only [List.length_cons] at hf
    have h1 := ih (block_set h o v) (o + 1) (by simp; omega)
    rw [World.setCells]
    rw [h1]
    have ho : o < cur.toList.length := by simp; omega
    simp only [Option.some.injEq, Obj.cells.injEq, and_true]
    congr 1
    rw [Array.toList_setIfInBounds, List.take_set, List.drop_set_of_lt (by omega)]
    have e1 : (cur.toList.take (o + 1)).set o v = cur.toList.take o ++ [v] := by
      rw [List.take_succ_eq_append_getElem ho, List.set_append_right _ _ (by simp; omega)]
      have : o - (cur.toList.take o).length = 0 := by simp at ho ⊢; omega
      rw [this]; rfl
    rw [e1]
    simp [Nat.add_assoc, Nat.add_comm 1]
theorem grown_setCells (vs : List Value) (w : World) (g o : Nat) : w.grownBy (w.setCells g o vs) (some g) := by
  induction vs generalizing w o with
  | nil => exact World.grownBy.refl _ _
  | cons v l ih => exact grown_step (grown_setCell w g o none v) (.inl rfl) (ih _ _)
end Go.Proofs.YtgehfbcagaaggaaGreatDoor
end
section
namespace Go.Proofs.YtgehfbcagaaggaaGreatDoor
open Go.RowKit
set_option linter.unusedVariables false
set_option linter.unusedSimpArgs false
/-- A slice of byte slices, each with its capacity, lies below B and reads as ls. -/
def Rows2' (w : World) (B : Nat) (A : Option Addr) (ls : List (List UInt8)) : Prop :=
  ∃ vs : List Value, vs.length = ls.length ∧ Lie w B A vs ∧ ∀ (j : Nat) (x : List UInt8), ls[j]? = some x → ∃ A' c, vs[j]? = some (.slice A' x.length c) ∧ Sq w B A' c (bvs x)
theorem Rows2'.at_ {w : World} {B : Nat} {A : Option Addr} {ls : List (List UInt8)} (h : Rows2' w B A ls) {k : Nat} (hk : k < ls.length) : ∃ b o A' c, A = some ⟨b, o, none⟩ ∧ b < B ∧ w.cell? ⟨b, o + k, none⟩ = some (.slice A' ls[k].length c) ∧ Sq w B A' c (bvs ls[k]) := by
  obtain ⟨vs, hl, hv, he⟩ := h
  obtain ⟨A', c, h1, h2⟩ := he k ls[k] (List.getElem?_eq_getElem hk)
  obtain ⟨b, o, hA, hb, hc⟩ := hv.at_ (k := k) (by omega)
  rw [List.getElem?_eq_getElem (by omega)] at h1
  injection h1 with h1
  exact ⟨b, o, A', c, hA, hb, by rw [hc, h1], h2⟩
theorem Rows2'.below {w w' : World} {B : Nat} {A : Option Addr} {ls : List (List UInt8)} (h : Rows2' w B A ls) (hb : Below B w w') : Rows2' w' B A ls := by
  obtain ⟨vs, hl, hv, he⟩ := h
  refine ⟨vs, hl, hv.below hb, fun j x hx => ?_⟩
  obtain ⟨A', c, h1, h2⟩ := he j x hx
  exact ⟨A', c, h1, h2.below hb⟩
theorem flatten_take (ls : List (List UInt8)) (k : Nat) (h : k < ls.length) : (ls.take (k + 1)).flatten = (ls.take k).flatten ++ ls[k] := by
  rw [List.take_succ_eq_append_getElem h, List.flatten_append]; simp
theorem flatten_le (ls : List (List UInt8)) (k : Nat) : (ls.take k).flatten.length ≤ ls.flatten.length := by
  conv => rhs; rw [← List.take_append_drop k ls]
  rw [List.flatten_append, List.length_append]; omega
end Go.Proofs.YtgehfbcagaaggaaGreatDoor
end
section
namespace Go.Proofs.YtgehfbcagaaggaaGreatDoor
open Go.RowKit
set_option linter.unusedVariables false
set_option linter.unusedSimpArgs false
theorem Rows2'.more {w : World} {B B' : Nat} {A : Option Addr} {ls : List (List UInt8)} (h : Rows2' w B A ls) (hB : B ≤ B') : Rows2' w B' A ls := by
  obtain ⟨vs, hl, hv, he⟩ := h
  refine ⟨vs, hl, hv.more hB, fun j x hx => ?_⟩
  obtain ⟨A', c, h1, h2⟩ := he j x hx
  exact ⟨A', c, h1, h2.more hB⟩
theorem Rows2'.none (w : World) (B : Nat) : Rows2' w B none [] := ⟨[], rfl, Lie.nil, fun j x h => by simp at h⟩
end Go.Proofs.YtgehfbcagaaggaaGreatDoor
end
