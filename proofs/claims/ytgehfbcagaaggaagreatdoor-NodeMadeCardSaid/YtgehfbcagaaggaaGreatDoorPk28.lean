/-
  Texts of this claim in one file: WkP, Izs, Uv, CopyG.
-/
import Derived.Test.YtgehfbcagaaggaaGreatDoorPk30
import Derived.Laws.CopyOwn
section
namespace Go.Proofs.YtgehfbcagaaggaaGreatDoor
open Go Go.RowKit
set_option linter.unusedVariables false
set_option linter.unusedSimpArgs false
/-- How many ones a number has from its lowest digit on. -/
def lv (x : Nat) : Nat := if h : x % 2 = 1 then lv (x / 2) + 1 else 0
termination_by x
decreasing_by omega
/-- The q-th node of level l. -/
def nd (q l : Nat) : Nat := q * 2 ^ (l + 1) + (2 ^ l - 1)
/-- The first and the last number beneath. -/
def loN (q l : Nat) : Nat := q * 2 ^ (l + 1)
def hiN (q l : Nat) : Nat := q * 2 ^ (l + 1) + (2 ^ (l + 1) - 2)
end Go.Proofs.YtgehfbcagaaggaaGreatDoor
end
section
namespace Go.Proofs.YtgehfbcagaaggaaGreatDoor
open Go Go.RowKit
set_option linter.unusedVariables false
set_option linter.unusedSimpArgs false
/-- Numbers of either sign, as cells. -/
def izs (xs : List Int) : List Value := xs.map fun x => Value.int .i64 x
@[simp] theorem izs_length (xs : List Int) : (izs xs).length = xs.length := by simp [izs]
theorem Lie.numZ {w : World} {B : Nat} {A : Option Addr} {xs : List Int} (h : Lie w B A (izs xs)) {k : Nat} (hk : k < xs.length) : ∃ b o, A = some ⟨b, o, none⟩ ∧ b < B ∧ w.cell? ⟨b, o + k, none⟩ = some (.int .i64 xs[k]) := by
  obtain ⟨b, o, hA, hb, hc⟩ := h.at_ (k := k) (by simpa using hk)
  refine ⟨b, o, hA, hb, ?_⟩
  rw [hc]
  simp [izs]
end Go.Proofs.YtgehfbcagaaggaaGreatDoor
end
section
namespace Go.Proofs.YtgehfbcagaaggaaGreatDoor
open Go.RowKit
set_option linter.unusedVariables false
set_option linter.unusedSimpArgs false
/-- Words of 64 bits as cells. -/
def uvs (xs : List Nat) : List Value := xs.map fun x => Value.int .u64 ((x : Nat) : Int)
@[simp] theorem uvs_length (xs : List Nat) : (uvs xs).length = xs.length := by simp [uvs]
theorem uvs_append (xs ys : List Nat) : uvs (xs ++ ys) = uvs xs ++ uvs ys := by simp [uvs]
end Go.Proofs.YtgehfbcagaaggaaGreatDoor
end
section
namespace Go.Proofs.YtgehfbcagaaggaaGreatDoor
open Go.RowKit
set_option linter.unusedVariables false
set_option linter.unusedSimpArgs false
/-- What lies in a slice, as copy asks it. -/
theorem Lie.src {w : World} {B : Nat} {A : Option Addr} {cs : List Value} (h : Lie w B A cs) (hp : 0 < cs.length) : ∃ ad, A = some ad ∧ ∀ j v, cs[j]? = some v → w.cell? (ad.add j) = some v := by
  obtain ⟨b, o, rfl, _, hc⟩ := h (fun e => by subst e; simp at hp)
  exact ⟨_, rfl, fun j v hv => by rw [add_none]; exact hc j v hv⟩
end Go.Proofs.YtgehfbcagaaggaaGreatDoor
end
