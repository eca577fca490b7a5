/-
  Texts of this claim in one file: Ref02b, Ref05, Ref01, Ref05b, Ref07a.
-/
import Derived.Test.YtpkmidaflnbobaaGreatDoorPk0
import Derived.Test.YtpkmidaflnbobaaGreatDoorPk1
import Derived.Test.YtpkmidaflnbobaaGreatDoorPk38
import Derived.Test.YtpkmidaflnbobaaGreatDoorPk39
import Derived.Test.YtpkmidaflnbobaaGreatDoorPk2
import Derived.Test.YtpkmidaflnbobaaGreatDoorPk7
import Derived.Test.YtpkmidaflnbobaaGreatDoorPk9
import Derived.Test.YtpkmidaflnbobaaGreatDoorPk8
import Derived.Test.YtpkmidaflnbobaaGreatDoorPk10
import Derived.Test.YtpkmidaflnbobaaGreatDoorPk13
import Derived.Deep.RegionHeld3
import Derived.Test.YtpkmidaflnbobaaGreatDoorPk44
section
namespace Go.Proofs.YtpkmidaflnbobaaGreatDoor
section
open Go.RowKit
set_option linter.unusedVariables false
set_option linter.unusedSimpArgs false
end
section
open Go.RowKit
set_option linter.unusedVariables false
set_option linter.unusedSimpArgs false
/-- Block g holds the words xs from its beginning on. -/
def RowU (w : World) (g : Nat) (xs : List Nat) : Prop := ∃ cur : Array Value, w.heap[g]? = some (.cells cur 53 (0, 0)) ∧ ∀ (j x : Nat), xs[j]? = some x → cur[j]? = some (.int .u64 (x : Int))
section
variable {w w' : World} {g : Nat} {xs : List Nat}
theorem RowU.cell (h : RowU w g xs) {j x : Nat} (hx : xs[j]? = some x) : w.cell? ⟨g, j, none⟩ = some (.int .u64 (x : Int)) := by obtain ⟨cur, h1, h2⟩ := h; exact cell_of h1 j _ (h2 j x hx)
end
theorem RowU.lie {w : World} {g : Nat} {xs : List Nat} (h : RowU w g xs) : Lie w (g + 1) (some ⟨g, 0, none⟩) (uvs xs) := fun _ =>
  ⟨g, 0, rfl, by omega, fun j x hx => by
    rw [Nat.zero_add]
    have hj : j < xs.length := by
      have := (List.getElem?_eq_some_iff.1 hx).1
      simpa using this
    have h2 := h.cell (List.getElem?_eq_getElem hj)
    rw [h2, ← hx, uvs, List.getElem?_map, List.getElem?_eq_getElem hj]; rfl⟩
end
end Go.Proofs.YtpkmidaflnbobaaGreatDoor
end
section
namespace Go.Proofs.YtpkmidaflnbobaaGreatDoor
open Go.RowKit
set_option linter.unusedVariables false
set_option linter.unusedSimpArgs false
/-- The blocks as a row of rows, each the call's own. -/
def Blks (w : World) (B : Nat) (key info : List UInt8) (v : Value) (i : Nat) : Prop :=
  ∃ vs : List Value, vs.length = i ∧ w.ownsRow B 22 1 v i vs ∧ ∀ j x, vs[j]? = some x → OwnB w B x (kBlk key info (j + 1))
theorem Blks.nil (w : World) (B : Nat) (key info : List UInt8) : Blks w B key info (.slice none 0 0) 0 := ⟨[], rfl, World.ownsRow_nil _ _ _ _, fun j x h => by simp at h⟩
/-- The j-th block, where there is one: its cell, and what it leads to. -/
theorem Blks.at_ {w : World} {B : Nat} {key info : List UInt8} {A : Option Addr} {c i j : Nat} (h : Blks w B key info (.slice A i c) i) (hj : j < i) :
    ∃ b A' c', A = some ⟨b, 0, none⟩ ∧ i ≤ c ∧ c ≤ 9223372036854775807 ∧ b < w.heap.size ∧ w.cell? ⟨b, j, none⟩ = some (.slice A' 32 c') ∧ Lie w w.heap.size A' (bvs (kBlk key info (j + 1))) := by
  obtain ⟨vs, hl, ho, he⟩ := h
  obtain ⟨g, cap, cur, hv, _, hg, h1, h2, _, _⟩ := ho.2.resolve_left (fun h => by have := h.2; omega)
  injection hv with hA hn hc
  subst hA; subst hc
  have hx : vs[j]? = some vs[j] := List.getElem?_eq_getElem (by omega)
  have hO := he j _ hx
  obtain ⟨A', c', hv', hS⟩ := own_sl hO
  rw [kBlk_length] at hv'
  refine ⟨g, A', c', rfl, h1, by simpa [maxLen] using h2, block_lt hg, ?_, hS.lie⟩
  have := ho.cells (g := g) rfl j _ hx
  rw [← hv']
  simpa [Addr.add_lit] using this
end Go.Proofs.YtpkmidaflnbobaaGreatDoor
end
section
namespace Go.Proofs.YtpkmidaflnbobaaGreatDoor
open Go.RowKit
set_option linter.unusedVariables false
set_option linter.unusedSimpArgs false
theorem own_lit (w : World) (cs : Array Value) (n : Nat) (xs : List UInt8) {B : Nat} (hB : B ≤ w.heap.size) (hn : cs.size = n) (hx : xs.length = n) (h63 : n ≤ 9223372036854775807) (h : cs.toList = bvs xs) :
    OwnB (w.alloc (.cells cs 5)) B (.slice (some ⟨w.heap.size, 0, none⟩) n n) xs := by
  have h1 := World.ownsRow_lit (base := B) (e := 5) (size := 1) w cs n hB (by simpa [maxLen] using h63) (by rw [hn, Nat.mul_one])
  rw [h] at h1
  unfold OwnB
  rw [hx]
  exact h1
theorem u8_cell (m : Nat) (z : Int) (h : z = (m : Int) % 256) : Value.int .u8 z = .int .u8 ((UInt8.ofNat m).toNat : Int) := by
  rw [ofNat_val, h]
theorem len_cells1 (n : Nat) (h : n < 64) : [Value.int .u8 (n : Int)] = bvs (lenBytes n) := by
  unfold lenBytes
  rw [if_pos h]
  simp only [beBytes, bvs, List.map_cons, List.map_nil]
  rw [u8_cell (n / 256 ^ 0) (n : Int) (by simp; omega)]
theorem len_cells2 (n : Nat) (h1 : ¬ n < 64) (h : n < 16384) : [Value.int .u8 (64 + (n : Int) / 256), .int .u8 ((n : Int) % 256)] = bvs (lenBytes n) := by
  unfold lenBytes
  rw [if_neg h1, if_pos h]
  simp only [beBytes, bvs, List.map_cons, List.map_nil]
  rw [u8_cell ((16384 + n) / 256 ^ 1) (64 + (n : Int) / 256) (by simp; omega), u8_cell ((16384 + n) / 256 ^ 0) ((n : Int) % 256) (by simp; omega)]
theorem len_cells4 (n : Nat) (h1 : ¬ n < 64) (h2 : ¬ n < 16384) (h : n < 1073741824) :
    [Value.int .u8 (128 + (n : Int) / 16777216), .int .u8 ((n : Int) / 65536 % 256), .int .u8 ((n : Int) / 256 % 256), .int .u8 ((n : Int) % 256)] = bvs (lenBytes n) := by
  unfold lenBytes
  rw [if_neg h1, if_neg h2]
  simp only [beBytes, bvs, List.map_cons, List.map_nil]
  rw [u8_cell ((2147483648 + n) / 256 ^ 3) (128 + (n : Int) / 16777216) (by simp; omega), u8_cell ((2147483648 + n) / 256 ^ 2) ((n : Int) / 65536 % 256) (by simp; omega),
    u8_cell ((2147483648 + n) / 256 ^ 1) ((n : Int) / 256 % 256) (by simp; omega), u8_cell ((2147483648 + n) / 256 ^ 0) ((n : Int) % 256) (by simp; omega)]
set_option maxRecDepth 100000 in
set_option maxHeartbeats 400000 in
theorem RefLen_any (n : Nat) (w : World) (hn : n < 1073741824) :
    Calls Tryz.prog 66 #[.int .i64 (n : Int)] w fun e w' => ∃ v, e = .returned v ∧ OwnB w' w.heap.size v (lenBytes n) ∧ w.grownBy w' none := by
  by_cases h1 : n < 64
  · have HC := hid (len_cells1 n h1)
    have HL : Hid ((lenBytes n).length = 1) := hid (by rw [lenBytes_length, lenSize, if_pos h1])
    go_enter Tryz.func66, Tryz.ntmps66
    go_wp2
    go_ret
    exact ⟨_, rfl, own_lit w _ 1 _ (Nat.le_refl _) rfl HL.out (by omega) HC.out, World.grownBy_alloc w _ none⟩
  · by_cases h2 : n < 16384
    · have HC := hid (len_cells2 n h1 h2)
      have HL : Hid ((lenBytes n).length = 2) := hid (by rw [lenBytes_length, lenSize, if_neg h1, if_pos h2])
      go_enter Tryz.func66, Tryz.ntmps66
      go_wp2
      go_ret
      exact ⟨_, rfl, own_lit w _ 2 _ (Nat.le_refl _) rfl HL.out (by omega) HC.out, World.grownBy_alloc w _ none⟩
    · have HC := hid (len_cells4 n h1 h2 hn)
      have HL : Hid ((lenBytes n).length = 4) := hid (by rw [lenBytes_length, lenSize, if_neg h1, if_neg h2])
      go_enter Tryz.func66, Tryz.ntmps66
      go_wp2
      go_ret
      exact ⟨_, rfl, own_lit w _ 4 _ (Nat.le_refl _) rfl HL.out (by omega) HC.out, World.grownBy_alloc w _ none⟩
set_option maxHeartbeats 400000 in
theorem RefVec_any (A : Option Addr) (ys : List UInt8) (c : Nat) (w : World) (hn : ys.length < 1073741824) (hA : Lie w w.heap.size A (bvs ys)) :
    Calls Tryz.prog 44 #[.slice A ys.length c] w fun e w' => ∃ v, e = .returned v ∧ OwnB w' w.heap.size v (vecBytes ys) ∧ w.grownBy w' none := by
  go_enter Tryz.func44, Tryz.ntmps44
  go_wp2_with fail
  refine (RefLen_any ys.length _ hn).mono ?_
  rintro e w1 ⟨v1, rfl, ho1, hg1⟩
  have hA1 := hA.grown hg1 (Nat.le_refl _) (fun _ h => by cases h)
  have HZ := hid (lenBytes_length ys.length)
  have hz2 := lenSize_le ys.length
  go_wp2_with (at_builtin; refine wpList_append_lie rfl _ _ 22 rfl w.heap.size 5 (.int .u8 0) 1 Tryz.underlying22 infoU8 rfl rfl ho1 (bvs_length ys) rfl hA1 (bvs_one ys) ?d1 ?d2 ?d3 ?_)
  case d1 => rw [HZ.out]; unfold maxLen; omega
  case d2 => rw [HZ.out]; omega
  case d3 => exact hg1.size
  intro v2 w2 hown2 hg2 hat2
  go_wp2
  go_ret
  exact ⟨v2, rfl, by simpa [OwnB, vecBytes, bvs_append] using hown2, grown_fresh hg1 hg2 (own_lt ho1)⟩
end Go.Proofs.YtpkmidaflnbobaaGreatDoor
end
section
namespace Go.Proofs.YtpkmidaflnbobaaGreatDoor
open Go.RowKit
set_option linter.unusedVariables false
set_option linter.unusedSimpArgs false
theorem RefVec_n (A : Option Addr) (ys : List UInt8) (m c : Nat) (w : World) (hy : ys.length = m) (hn : m < 1073741824) (hA : Lie w w.heap.size A (bvs ys)) :
    Calls Tryz.prog 44 #[.slice A m c] w fun e w' => ∃ v, e = .returned v ∧ OwnB w' w.heap.size v (vecBytes ys) ∧ w.grownBy w' none := by
  subst hy
  exact RefVec_any A ys c w hn hA
theorem below_of_none {w w' : World} (h : w.grownBy w' none) : Below w.heap.size w w' := below_of_grown h (Nat.le_refl _) (fun _ h => by cases h)
end Go.Proofs.YtpkmidaflnbobaaGreatDoor
end
section
namespace Go.Proofs.YtpkmidaflnbobaaGreatDoor
open Go.RowKit
set_option linter.unusedVariables false
set_option linter.unusedSimpArgs false
/-- The first 32 bytes, 0 behind them. -/
def pad32 (xs : List UInt8) : List UInt8 := (xs ++ List.replicate 32 0).take 32
theorem pad32_length (xs : List UInt8) : (pad32 xs).length = 32 := by unfold pad32; rw [List.length_take, List.length_append, List.length_replicate]; omega
def clampB (xs : List UInt8) : List UInt8 := ((pad32 xs).set 0 (UInt8.ofNat (((pad32 xs).getD 0 0).toNat / 8 * 8))).set 31 (UInt8.ofNat (((pad32 xs).getD 31 0).toNat % 64 + 64))
theorem clampB_length (xs : List UInt8) : (clampB xs).length = 32 := by unfold clampB; rw [List.length_set, List.length_set, pad32_length]
end Go.Proofs.YtpkmidaflnbobaaGreatDoor
end
