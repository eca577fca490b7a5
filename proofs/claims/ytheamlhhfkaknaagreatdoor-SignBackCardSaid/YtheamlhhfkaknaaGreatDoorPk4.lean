/-
  Texts of this claim in one file: ShaP, Sha1, Sha2, Sha4, Sha5, Sha7, Sha8, Sha9, ShaT.
-/
import Derived.Test.YtheamlhhfkaknaaGreatDoorPk27
import Derived.Laws.BitsAllLaws
import Derived.Laws.Unary
import Derived.StillTailTactics
import Derived.Deep.WholeRow
import Derived.Test.YtheamlhhfkaknaaGreatDoorPk30
import Derived.ScopeJumps
import Derived.WalkMore
import Derived.Deep.RegionWith
import Derived.Deep.RegionLaw
import Derived.Deep.MidRow
import Derived.Laws.CopyOwn
import Derived.Deep.DeepCutAuto
import Derived.Deep.RegionHeld3
import Derived.Test.YtheamlhhfkaknaaGreatDoorPk22
import Derived.Lib.SlBytesConst
section
namespace Go.Proofs.YtheamlhhfkaknaaGreatDoor
section
set_option linter.unusedVariables false
set_option linter.unusedSimpArgs false
/-- x turned right by n of 32 bits. -/
def rotr (x n : Nat) : Nat := x / 2 ^ n + x % 2 ^ n * 2 ^ (32 - n)
def S0 (x : Nat) : Nat := rotr x 2 ^^^ rotr x 13 ^^^ rotr x 22
def S1 (x : Nat) : Nat := rotr x 6 ^^^ rotr x 11 ^^^ rotr x 25
def s0 (x : Nat) : Nat := rotr x 7 ^^^ rotr x 18 ^^^ x / 8
def s1 (x : Nat) : Nat := rotr x 17 ^^^ rotr x 19 ^^^ x / 1024
def chN (e f g : Nat) : Nat := (e &&& f) ^^^ ((4294967295 - e) &&& g)
def majN (a b c : Nat) : Nat := (a &&& b) ^^^ (a &&& c) ^^^ (b &&& c)
structure St8 where
  a : Nat
  b : Nat
  c : Nat
  d : Nat
  e : Nat
  f : Nat
  g : Nat
  h : Nat
deriving DecidableEq
def St8.list (s : St8) : List Nat := [s.a, s.b, s.c, s.d, s.e, s.f, s.g, s.h]
def St8.ok (s : St8) : Prop := s.a < 4294967296 ∧ s.b < 4294967296 ∧ s.c < 4294967296 ∧ s.d < 4294967296 ∧ s.e < 4294967296 ∧ s.f < 4294967296 ∧ s.g < 4294967296 ∧ s.h < 4294967296
def t1N (s : St8) (k w : Nat) : Nat := s.h + S1 s.e + chN s.e s.f s.g + k + w
def t2N (s : St8) : Nat := S0 s.a + majN s.a s.b s.c
def St8.step (s : St8) (k w : Nat) : St8 := ⟨(t1N s k w + t2N s) % 4294967296, s.a, s.b, s.c, (s.d + t1N s k w) % 4294967296, s.e, s.f, s.g⟩
def rnd (K W : List Nat) (s : St8) : Nat → St8
  | 0 => s
  | t + 1 => (rnd K W s t).step (K.getD t 0) (W.getD t 0)
def St8.plus (s v : St8) : St8 := ⟨(s.a + v.a) % 4294967296, (s.b + v.b) % 4294967296, (s.c + v.c) % 4294967296, (s.d + v.d) % 4294967296, (s.e + v.e) % 4294967296, (s.f + v.f) % 4294967296, (s.g + v.g) % 4294967296, (s.h + v.h) % 4294967296⟩
/-- A word of 4 bytes, the t-th of a block. -/
def word4 (m : List UInt8) (t : Nat) : Nat := (((m.getD (4 * t) 0).toNat * 256 + (m.getD (4 * t + 1) 0).toNat) * 256 + (m.getD (4 * t + 2) 0).toNat) * 256 + (m.getD (4 * t + 3) 0).toNat
/-- The first t words of a block, gone on. -/
def wordsTo (m : List UInt8) : Nat → List Nat
  | 0 => []
  | t + 1 => let w := wordsTo m t
    w ++ [if t < 16 then word4 m t else (s1 (w.getD (t - 2) 0) + w.getD (t - 7) 0 + s0 (w.getD (t - 15) 0) + w.getD (t - 16) 0) % 4294967296]
@[simp] theorem wordsTo_length (m : List UInt8) (t : Nat) : (wordsTo m t).length = t := by
  induction t with
  | zero => rfl
  | succ t ih => simp [wordsTo, ih]
def mixN (K : List Nat) (s : St8) (m : List UInt8) : St8 := s.plus (rnd K (wordsTo m 64) s 64)
/-- Through n whole blocks. -/
def blocksN (K : List Nat) : Nat → St8 → List UInt8 → St8
  | 0, s, _ => s
  | n + 1, s, m => blocksN K n (mixN K s (m.take 64)) (m.drop 64)
def word32 (x : Nat) : List UInt8 := [UInt8.ofNat (x / 16777216), UInt8.ofNat (x / 65536), UInt8.ofNat (x / 256), UInt8.ofNat x]
def St8.bytes (s : St8) : List UInt8 := s.list.flatMap word32
/-- The 64 constants. -/
def kTab : List Nat := [
  0x428a2f98, 0x71374491, 0xb5c0fbcf, 0xe9b5dba5, 0x3956c25b, 0x59f111f1, 0x923f82a4, 0xab1c5ed5,
  0xd807aa98, 0x12835b01, 0x243185be, 0x550c7dc3, 0x72be5d74, 0x80deb1fe, 0x9bdc06a7, 0xc19bf174,
  0xe49b69c1, 0xefbe4786, 0x0fc19dc6, 0x240ca1cc, 0x2de92c6f, 0x4a7484aa, 0x5cb0a9dc, 0x76f988da,
  0x983e5152, 0xa831c66d, 0xb00327c8, 0xbf597fc7, 0xc6e00bf3, 0xd5a79147, 0x06ca6351, 0x14292967,
  0x27b70a85, 0x2e1b2138, 0x4d2c6dfc, 0x53380d13, 0x650a7354, 0x766a0abb, 0x81c2c92e, 0x92722c85,
  0xa2bfe8a1, 0xa81a664b, 0xc24b8b70, 0xc76c51a3, 0xd192e819, 0xd6990624, 0xf40e3585, 0x106aa070,
  0x19a4c116, 0x1e376c08, 0x2748774c, 0x34b0bcb5, 0x391c0cb3, 0x4ed8aa4a, 0x5b9cca4f, 0x682e6ff3,
  0x748f82ee, 0x78a5636f, 0x84c87814, 0x8cc70208, 0x90befffa, 0xa4506ceb, 0xbef9a3f7, 0xc67178f2]
/-- The 8 beginnings. -/
def iv : St8 := ⟨0x6a09e667, 0xbb67ae85, 0x3c6ef372, 0xa54ff53a, 0x510e527f, 0x9b05688c, 0x1f83d9ab, 0x5be0cd19⟩
@[simp] theorem St8.list_length (s : St8) : s.list.length = 8 := rfl
end
section
set_option linter.unusedVariables false
set_option linter.unusedSimpArgs false
@[simp] theorem word32_length (x : Nat) : (word32 x).length = 4 := rfl
/-- How many noughts stand behind the mark. -/
def padZ (n : Nat) : Nat := (119 - n % 64) % 64
/-- What is behind the whole blocks, with the mark, the noughts and the count of all bits. -/
def padN (r : List UInt8) (n : Nat) (count : List UInt8) : List UInt8 := r ++ [128] ++ List.replicate (padZ n) 0 ++ count
end
section
set_option linter.unusedVariables false
set_option linter.unusedSimpArgs false
/-- What is written: the state behind the whole blocks. -/
def stOf (all : List UInt8) : St8 := blocksN kTab (all.length / 64) iv all
/-- What is behind the whole blocks. -/
def tailOf (all : List UInt8) : List UInt8 := all.drop (64 * (all.length / 64))
/-- The digest. -/
def closeS (s : St8) (r : List UInt8) (n : Nat) : St8 := blocksN kTab ((padN r n (beBytes 8 (8 * n))).length / 64) s (padN r n (beBytes 8 (8 * n)))
def shaB (all : List UInt8) : List UInt8 := (closeS (stOf all) (tailOf all) all.length).bytes
end
end Go.Proofs.YtheamlhhfkaknaaGreatDoor
end
section
namespace Go.Proofs.YtheamlhhfkaknaaGreatDoor
open Go.RowKit
set_option linter.unusedVariables false
set_option linter.unusedSimpArgs false
theorem ret_int {k : IntKind} {a b : Int} (h : a = b) : Ending.returned (.int k a) = .returned (.int k b) := by rw [h]
end Go.Proofs.YtheamlhhfkaknaaGreatDoor
end
section
namespace Go.Proofs.YtheamlhhfkaknaaGreatDoor
open Go.RowKit
set_option linter.unusedVariables false
set_option linter.unusedSimpArgs false
theorem below_drewN {B : Nat} {a w : World} (h : Below B a w) (n : Nat) : Below B a (w.drewN n) := ⟨h.os, h.tape, h.output, h.size, h.block⟩
theorem below_setRow {B : Nat} {a w : World} (h : Below B a w) {g : Nat} (hg : B ≤ g) (cs : Array Value) : Below B a (w.setRow g cs) :=
  ⟨h.os, h.tape, h.output, by rw [size_setRow]; exact h.size, fun k hk => (setRow_other w g k cs (by omega)).trans (h.block k hk)⟩
end Go.Proofs.YtheamlhhfkaknaaGreatDoor
end
section
namespace Go.Proofs.YtheamlhhfkaknaaGreatDoor
open Go.RowKit
set_option linter.unusedVariables false
set_option linter.unusedSimpArgs false
/-- If the second lies anywhere, it lies in the first one's block. -/
def SameBlk (A A' : Option Addr) : Prop := ∀ b o sp, A' = some ⟨b, o, sp⟩ → ∃ o0 sp0, A = some ⟨b, o0, sp0⟩
end Go.Proofs.YtheamlhhfkaknaaGreatDoor
end
section
namespace Go.Proofs.YtheamlhhfkaknaaGreatDoor
open Go.RowKit
set_option linter.unusedVariables false
set_option linter.unusedSimpArgs false
/-- Bytes as an array. -/
def byA (xs : List UInt8) : Array Value := (bvs xs).toArray
theorem byA_one (xs : List UInt8) : (byA xs).all (·.oneCell') = true := by
  rw [Array.all_eq_true']
  intro v hv
  exact bvs_one xs v (by simpa [byA] using hv)
end Go.Proofs.YtheamlhhfkaknaaGreatDoor
end
section
namespace Go.Proofs.YtheamlhhfkaknaaGreatDoor
open Go.RowKit
set_option linter.unusedVariables false
set_option linter.unusedSimpArgs false
/-- Cells laid over a known block. -/
theorem heap_setCells {w : World} {g : Nat} {cur : Array Value} {t : TypeId} (vs : List Value) (h : w.heap[g]? = some (.cells cur t (0, 0))) (o : Nat) (hf : o + vs.length ≤ cur.size) :
    (w.setCells g o vs).heap[g]? = some (.cells (cur.toList.take o ++ (vs ++ cur.toList.drop (o + vs.length))).toArray t (0, 0)) := by
  induction vs generalizing w o cur with
  | nil => simpa [World.setCells] using h
  | cons v l ih =>
    simp only [List.length_cons] at hf
    have h1 := ih (block_set h o v) (o + 1) (by simp; omega)
    rw [World.setCells]
    rw [h1]
    have ho : o < cur.toList.length := by simp; omega
    simp only [Option.some.injEq, Obj.cells.injEq, and_true]
    congr 1
    rw [Array.toList_setIfInBounds, List.take_set, List.drop_set_of_lt (by omega)]
    have e1 : (cur.toList.take (o + 1)).set o v = cur.toList.take o ++ [v] := by
      rw [List.take_succ_eq_append_getElem ho, List.set_append_right _ _ (by simp; omega)]
      have : o - (cur.toList.take o).length = 0 := by simp at ho ⊢; omega
      rw [this]; rfl
    rw [e1]
    simp [Nat.add_assoc, Nat.add_comm 1]
theorem grown_setCells (vs : List Value) (w : World) (g o : Nat) : w.grownBy (w.setCells g o vs) (some g) := by
  induction vs generalizing w o with
  | nil => exact World.grownBy.refl _ _
  | cons v l ih => exact grown_step (grown_setCell w g o none v) (.inl rfl) (ih _ _)
end Go.Proofs.YtheamlhhfkaknaaGreatDoor
end
section
namespace Go.Proofs.YtheamlhhfkaknaaGreatDoor
open Go.RowKit
set_option linter.unusedVariables false
set_option linter.unusedSimpArgs false
theorem grown_of_below {w w' : World} (h : Below w.heap.size w w') : w.grownBy w' none := ⟨h.os, h.tape, h.output, h.size, fun k hk _ => h.block k hk⟩
end Go.Proofs.YtheamlhhfkaknaaGreatDoor
end
section
namespace Go.Proofs.YtheamlhhfkaknaaGreatDoor
open Go.RowKit
set_option linter.unusedVariables false
set_option linter.unusedSimpArgs false
/-- A slice of byte slices, each with its capacity, lies below B and reads as ls. -/
def Rows2' (w : World) (B : Nat) (A : Option Addr) (ls : List (List UInt8)) : Prop :=
  ∃ vs : List Value, vs.length = ls.length ∧ Lie w B A vs ∧ ∀ (j : Nat) (x : List UInt8), ls[j]? = some x → ∃ A' c, vs[j]? = some (.slice A' x.length c) ∧ Sq w B A' c (bvs x)
theorem Rows2'.at_ {w : World} {B : Nat} {A : Option Addr} {ls : List (List UInt8)} (h : Rows2' w B A ls) {k : Nat} (hk : k < ls.length) : ∃ b o A' c, A = some ⟨b, o, none⟩ ∧ b < B ∧ w.cell? ⟨b, o + k, none⟩ = some (.slice A' ls[k].length c) ∧ Sq w B A' c (bvs ls[k]) := by
  obtain ⟨vs, hl, hv, he⟩ := h
  obtain ⟨A', c, h1, h2⟩ := he k ls[k] (List.getElem?_eq_getElem hk)
  obtain ⟨b, o, hA, hb, hc⟩ := hv.at_ (k := k) (by omega)
  rw [List.getElem?_eq_getElem (by omega)] at h1
  injection h1 with h1
  exact ⟨b, o, A', c, hA, hb, by rw [hc, h1], h2⟩
theorem Rows2'.below {w w' : World} {B : Nat} {A : Option Addr} {ls : List (List UInt8)} (h : Rows2' w B A ls) (hb : Below B w w') : Rows2' w' B A ls := by
  obtain ⟨vs, hl, hv, he⟩ := h
  refine ⟨vs, hl, hv.below hb, fun j x hx => ?_⟩
  obtain ⟨A', c, h1, h2⟩ := he j x hx
  exact ⟨A', c, h1, h2.below hb⟩
theorem flatten_take (ls : List (List UInt8)) (k : Nat) (h : k < ls.length) : (ls.take (k + 1)).flatten = (ls.take k).flatten ++ ls[k] := by
  rw [List.take_succ_eq_append_getElem h, List.flatten_append]; simp
theorem flatten_le (ls : List (List UInt8)) (k : Nat) : (ls.take k).flatten.length ≤ ls.flatten.length := by
  conv => rhs; rw [← List.take_append_drop k ls]
  rw [List.flatten_append, List.length_append]; omega
end Go.Proofs.YtheamlhhfkaknaaGreatDoor
end
section
namespace Go.Proofs.YtheamlhhfkaknaaGreatDoor
open Go.RowKit
set_option linter.unusedVariables false
set_option linter.unusedSimpArgs false
theorem Rows2'.more {w : World} {B B' : Nat} {A : Option Addr} {ls : List (List UInt8)} (h : Rows2' w B A ls) (hB : B ≤ B') : Rows2' w B' A ls := by
  obtain ⟨vs, hl, hv, he⟩ := h
  refine ⟨vs, hl, hv.more hB, fun j x hx => ?_⟩
  obtain ⟨A', c, h1, h2⟩ := he j x hx
  exact ⟨A', c, h1, h2.more hB⟩
theorem Rows2'.none (w : World) (B : Nat) : Rows2' w B none [] := ⟨[], rfl, Lie.nil, fun j x h => by simp at h⟩
end Go.Proofs.YtheamlhhfkaknaaGreatDoor
end
