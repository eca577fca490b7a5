/-
  Texts of this claim in one file: Ref14a, Ref01, Ref02b, Ref10.
-/
import Derived.Test.YtgehfbcagaaggaaGreatDoorPk28
import Derived.Test.YtgehfbcagaaggaaGreatDoorPk0
import Derived.Test.YtgehfbcagaaggaaGreatDoorPk33
import Derived.Test.YtgehfbcagaaggaaGreatDoorPk6
import Derived.Test.YtgehfbcagaaggaaGreatDoorPk12
import Derived.Test.YtgehfbcagaaggaaGreatDoorPk32
import Derived.Test.YtgehfbcagaaggaaGreatDoorPk31
import Derived.Test.YtgehfbcagaaggaaGreatDoorPk30
import Derived.Test.YtgehfbcagaaggaaGreatDoorPk35
import Derived.Test.YtgehfbcagaaggaaGreatDoorPk36
import Derived.Test.YtgehfbcagaaggaaGreatDoorPk13
section
namespace Go.Proofs.YtgehfbcagaaggaaGreatDoor
open Go Go.RowKit
set_option linter.unusedVariables false
set_option linter.unusedSimpArgs false
/-- A node's three cells; those of many. -/
def tri (p : Nat × Nat) : List Value := [.int .i64 (nd p.1 p.2 : Int), .int .i64 (loN p.1 p.2 : Int), .int .i64 (hiN p.1 p.2 : Int)]
/-- Nodes that lie: a slice's address, and its cells. -/
def LieT (w : World) (b c : Nat) (L : List (Nat × Nat)) : Prop := b < w.heap.size ∧ L.length ≤ c ∧ c ≤ 9223372036854775807 ∧ ∀ i p, L[i]? = some p → ∀ j u, (tri p)[j]? = some u → w.cell? ⟨b, i * 3 + j, none⟩ = some u
theorem LieT.on {w w' : World} {b c : Nat} {L : List (Nat × Nat)} (h : LieT w b c L) (hb : Below w.heap.size w w') : LieT w' b c L :=
  ⟨Nat.lt_of_lt_of_le h.1 hb.size, h.2.1, h.2.2.1, fun i p hp j u hu => (hb.cell (p := ⟨b, i * 3 + j, none⟩) h.1).trans (h.2.2.2 i p hp j u hu)⟩
theorem LieT.cells {w : World} {b c : Nat} {L : List (Nat × Nat)} (h : LieT w b c L) {i : Nat} {p : Nat × Nat} (hi : L[i]? = some p) :
    w.cell? ⟨b, i * 3, none⟩ = some (.int .i64 (nd p.1 p.2 : Int)) ∧ w.cell? ⟨b, i * 3 + 1, none⟩ = some (.int .i64 (loN p.1 p.2 : Int)) ∧ w.cell? ⟨b, i * 3 + 2, none⟩ = some (.int .i64 (hiN p.1 p.2 : Int)) :=
  ⟨h.2.2.2 i p hi 0 _ rfl, h.2.2.2 i p hi 1 _ rfl, h.2.2.2 i p hi 2 _ rfl⟩
theorem below_put (w : World) {B : Nat} (g : Nat) (cs : Array Value) (hg : B ≤ g) : Below B w (w.setRow g cs) := ⟨rfl, rfl, rfl, by simp, fun k hk => setRow_other _ _ _ _ (by omega)⟩
end Go.Proofs.YtgehfbcagaaggaaGreatDoor
end
section
namespace Go.Proofs.YtgehfbcagaaggaaGreatDoor
open Go.RowKit
set_option linter.unusedVariables false
set_option linter.unusedSimpArgs false
theorem own_lit (w : World) (cs : Array Value) (n : Nat) (xs : List UInt8) {B : Nat} (hB : B ≤ w.heap.size) (hn : cs.size = n) (hx : xs.length = n) (h63 : n ≤ 9223372036854775807) (h : cs.toList = bvs xs) :
    OwnB (w.alloc (.cells cs 5)) B (.slice (some ⟨w.heap.size, 0, none⟩) n n) xs := by
  have h1 := World.ownsRow_lit (base := B) (e := 5) (size := 1) w cs n hB (by simpa [maxLen] using h63) (by rw [hn, Nat.mul_one])
  rw [h] at h1
  unfold OwnB
  rw [hx]
  exact h1
theorem u8_cell (m : Nat) (z : Int) (h : z = (m : Int) % 256) : Value.int .u8 z = .int .u8 ((UInt8.ofNat m).toNat : Int) := by
  rw [ofNat_val, h]
theorem len_cells1 (n : Nat) (h : n < 64) : [Value.int .u8 (n : Int)] = bvs (lenBytes n) := by
  unfold lenBytes
  rw [if_pos h]
  simp only [beBytes, bvs, List.map_cons, List.map_nil]
  rw [u8_cell (n / 256 ^ 0) (n : Int) (by simp; omega)]
theorem len_cells2 (n : Nat) (h1 : ¬ n < 64) (h : n < 16384) : [Value.int .u8 (64 + (n : Int) / 256), .int .u8 ((n : Int) % 256)] = bvs (lenBytes n) := by
  unfold lenBytes
  rw [if_neg h1, if_pos h]
  simp only [beBytes, bvs, List.map_cons, List.map_nil]
  rw [u8_cell ((16384 + n) / 256 ^ 1) (64 + (n : Int) / 256) (by simp; omega), u8_cell ((16384 + n) / 256 ^ 0) ((n : Int) % 256) (by simp; omega)]
theorem len_cells4 (n : Nat) (h1 : ¬ n < 64) (h2 : ¬ n < 16384) (h : n < 1073741824) :
    [Value.int .u8 (128 + (n : Int) / 16777216), .int .u8 ((n : Int) / 65536 % 256), .int .u8 ((n : Int) / 256 % 256), .int .u8 ((n : Int) % 256)] = bvs (lenBytes n) := by
  unfold lenBytes
  rw [if_neg h1, if_neg h2]
  simp only [beBytes, bvs, List.map_cons, List.map_nil]
  rw [u8_cell ((2147483648 + n) / 256 ^ 3) (128 + (n : Int) / 16777216) (by simp; omega), u8_cell ((2147483648 + n) / 256 ^ 2) ((n : Int) / 65536 % 256) (by simp; omega),
    u8_cell ((2147483648 + n) / 256 ^ 1) ((n : Int) / 256 % 256) (by simp; omega), u8_cell ((2147483648 + n) / 256 ^ 0) ((n : Int) % 256) (by simp; omega)]
set_option maxRecDepth 100000 in
set_option maxHeartbeats 400000 in
theorem RefLen_any (n : Nat) (w : World) (hn : n < 1073741824) :
    Calls Tryz.prog 48 #[.int .i64 (n : Int)] w fun e w' => ∃ v, e = .returned v ∧ OwnB w' w.heap.size v (lenBytes n) ∧ w.grownBy w' none := by
  by_cases h1 : n < 64
  · have HC := hid (len_cells1 n h1)
    have HL : Hid ((lenBytes n).length = 1) := hid (by rw [lenBytes_length, lenSize, if_pos h1])
    go_enter Tryz.func48, Tryz.ntmps48
    go_wp2
    go_ret
    exact ⟨_, rfl, own_lit w _ 1 _ (Nat.le_refl _) rfl HL.out (by omega) HC.out, World.grownBy_alloc w _ none⟩
  · by_cases h2 : n < 16384
    · have HC := hid (len_cells2 n h1 h2)
      have HL : Hid ((lenBytes n).length = 2) := hid (by rw [lenBytes_length, lenSize, if_neg h1, if_pos h2])
      go_enter Tryz.func48, Tryz.ntmps48
      go_wp2
      go_ret
      exact ⟨_, rfl, own_lit w _ 2 _ (Nat.le_refl _) rfl HL.out (by omega) HC.out, World.grownBy_alloc w _ none⟩
    · have HC := hid (len_cells4 n h1 h2 hn)
      have HL : Hid ((lenBytes n).length = 4) := hid (by rw [lenBytes_length, lenSize, if_neg h1, if_neg h2])
      go_enter Tryz.func48, Tryz.ntmps48
      go_wp2
      go_ret
      exact ⟨_, rfl, own_lit w _ 4 _ (Nat.le_refl _) rfl HL.out (by omega) HC.out, World.grownBy_alloc w _ none⟩
set_option maxHeartbeats 400000 in
theorem RefVec_any (A : Option Addr) (ys : List UInt8) (c : Nat) (w : World) (hn : ys.length < 1073741824) (hA : Lie w w.heap.size A (bvs ys)) :
    Calls Tryz.prog 27 #[.slice A ys.length c] w fun e w' => ∃ v, e = .returned v ∧ OwnB w' w.heap.size v (vecBytes ys) ∧ w.grownBy w' none := by
  go_enter Tryz.func27, Tryz.ntmps27
  go_wp2_with fail
  refine (RefLen_any ys.length _ hn).mono ?_
  rintro e w1 ⟨v1, rfl, ho1, hg1⟩
  have hA1 := hA.grown hg1 (Nat.le_refl _) (fun _ h => by cases h)
  have HZ := hid (lenBytes_length ys.length)
  have hz2 := lenSize_le ys.length
  go_wp2_with (at_builtin; refine wpList_append_lie rfl _ _ 22 rfl w.heap.size 5 (.int .u8 0) 1 Tryz.underlying22 infoU8 rfl rfl ho1 (bvs_length ys) rfl hA1 (bvs_one ys) ?d1 ?d2 ?d3 ?_)
  case d1 => rw [HZ.out]; unfold maxLen; omega
  case d2 => rw [HZ.out]; omega
  case d3 => exact hg1.size
  intro v2 w2 hown2 hg2 hat2
  go_wp2
  go_ret
  exact ⟨v2, rfl, by simpa [OwnB, vecBytes, bvs_append] using hown2, grown_fresh hg1 hg2 (own_lt ho1)⟩
set_option maxHeartbeats 800000 in
theorem RefNum_any (s n : Nat) (w : World) (hs : s ≤ 8) (hn : n < 18446744073709551616) :
    Calls Tryz.prog 28 #[.int .i64 (s : Int), .int .u64 (n : Int)] w fun e w' => ∃ v, e = .returned v ∧ OwnB w' w.heap.size v (beBytes s n) ∧ w.grownBy w' none := by
  go_enter Tryz.func28, Tryz.ntmps28
  go_wp2
  go_loopg [1, 5, 6] s (fun g m u i wr => ∃ k : Nat, k + g = s ∧ i = .int .i64 (k : Int) ∧ m = .int .u64 ((n / 256 ^ k : Nat) : Int) ∧ OwnB wr w.heap.size u (beBytes k n) ∧ w.grownBy wr none)
  case atStart => exact ⟨0, by omega, rfl, by simp, World.ownsRow_nil _ _ _ _, World.grownBy.refl _ _⟩
  case round =>
    obtain ⟨k, hk, rfl, rfl, ho, hg⟩ := hrel
    have HK := hid hk; have HG := hid hg
    clear hk hg
    by_cases hlt : k < s
    · obtain ⟨A, c, rfl, hS⟩ := own_sl ho
      have HS := hid hS
      have HO := hid ho
      clear ho hS
      obtain ⟨m, hm⟩ : ∃ m, m = n / 256 ^ k := ⟨_, rfl⟩
      rw [← hm]
      have hmb : m < 18446744073709551616 := by rw [hm]; exact Nat.lt_of_le_of_lt (Nat.div_le_self _ _) hn
      have HM := hid hm
      clear hm
      rw [beBytes_length] at *
      have hone : ∀ W : World, OwnB (W.alloc (.cells #[.int .u8 ((m : Int) % 256)] 5)) W.heap.size (.slice (some ⟨W.heap.size, 0, none⟩) 1 1) [UInt8.ofNat m] := fun W => own_lit W _ 1 _ (Nat.le_refl _) rfl rfl (by omega) (by simp only [bvs, List.map_cons, List.map_nil]; rw [u8_cell m _ rfl])
      have HONE := hid hone
      clear hone
      go_wp2_with (at_builtin; refine wpList_append_lie rfl _ _ 22 rfl wr.heap.size 5 (.int .u8 0) 1 Tryz.underlying22 infoU8 rfl rfl (HONE.out wr) ((bvs_length _).trans (beBytes_length k n)) rfl (HS.out.lie.alloc (Nat.le_refl _) _) (bvs_one _) ?d1 ?d2 ?d3 ?_)
      case d1 => simp [maxLen]; omega
      case d2 => simp; omega
      case d3 => simp
      intro v2 w2 hown2 hg2 hat2
      have hz := HG.out.size
      have hB : beBytes (k + 1) n = UInt8.ofNat m :: beBytes k n := by rw [beBytes, HM.out]
      have hO2 : OwnB w2 w.heap.size v2 (beBytes (k + 1) n) := by
        refine own_base (B' := wr.heap.size) ?_ hz
        rw [hB]
        simpa [OwnB, bvs, Nat.add_comm] using hown2
      have hG2 : w.grownBy w2 none := grown_fresh (grown_alloc HG.out _) hg2 (fun q h => by simp [Value.ownBlock] at h; omega)
      have HO2 := hid hO2; have HG2 := hid hG2
      have hdiv : m / 256 = n / 256 ^ (k + 1) := by rw [HM.out, Nat.div_div_eq_div_mul, Nat.pow_succ]
      have HDIV := hid hdiv
      clear hown2 hg2 hat2 hO2 hG2 hB hdiv HONE HO HS
      go_wp2
      have hk := HK.out
      go_roundg (s - k - 1)
      case measure => omega
      case rel => exact ⟨k + 1, by omega, by go_num, by rw [← HDIV.out]; go_num, HO2.out, HG2.out⟩
    · have hk := HK.out
      obtain rfl : k = s := by omega
      go_wp2
      go_ret
      exact ⟨u5, rfl, ho, HG.out⟩
end Go.Proofs.YtgehfbcagaaggaaGreatDoor
end
section
namespace Go.Proofs.YtgehfbcagaaggaaGreatDoor
section
open Go.RowKit
set_option linter.unusedVariables false
set_option linter.unusedSimpArgs false
end
section
open Go.RowKit
set_option linter.unusedVariables false
set_option linter.unusedSimpArgs false
/-- Block g holds the words xs from its beginning on. -/
def RowU (w : World) (g : Nat) (xs : List Nat) : Prop := ∃ cur : Array Value, w.heap[g]? = some (.cells cur 59 (0, 0)) ∧ ∀ (j x : Nat), xs[j]? = some x → cur[j]? = some (.int .u64 (x : Int))
section
variable {w w' : World} {g : Nat} {xs : List Nat}
theorem RowU.lt (h : RowU w g xs) : g < w.heap.size := by obtain ⟨cur, h1, _⟩ := h; exact block_lt h1
theorem RowU.keep (h : RowU w g xs) (hk : w'.heap[g]? = w.heap[g]?) : RowU w' g xs := by obtain ⟨cur, h1, h2⟩ := h; exact ⟨cur, hk.trans h1, h2⟩
theorem RowU.cell (h : RowU w g xs) {j x : Nat} (hx : xs[j]? = some x) : w.cell? ⟨g, j, none⟩ = some (.int .u64 (x : Int)) := by obtain ⟨cur, h1, h2⟩ := h; exact cell_of h1 j _ (h2 j x hx)
theorem RowU.set (h : RowU w g xs) (j y : Nat) (hj : j < xs.length) : RowU (w.setCell ⟨g, j, none⟩ (.int .u64 (y : Int))) g (xs.set j y) := by
  obtain ⟨cur, h1, h2⟩ := h
  have hc : j < cur.size := (Array.getElem?_eq_some_iff.1 (h2 j _ (List.getElem?_eq_getElem hj))).1
  refine ⟨_, block_set h1 j _, fun i x hx => ?_⟩
  rw [Array.getElem?_setIfInBounds]
  by_cases e : j = i
  · subst e
    rw [List.getElem?_set_self hj] at hx
    injection hx with hx
    rw [if_pos rfl, if_pos hc, hx]
  · rw [List.getElem?_set_ne e] at hx
    rw [if_neg e]; exact h2 i x hx
end
theorem RowU.lie {w : World} {g : Nat} {xs : List Nat} (h : RowU w g xs) : Lie w (g + 1) (some ⟨g, 0, none⟩) (uvs xs) := fun _ =>
  ⟨g, 0, rfl, by omega, fun j x hx => by
    rw [Nat.zero_add]
    have hj : j < xs.length := by
      have := (List.getElem?_eq_some_iff.1 hx).1
      simpa using this
    have h2 := h.cell (List.getElem?_eq_getElem hj)
    rw [h2, ← hx, uvs, List.getElem?_map, List.getElem?_eq_getElem hj]; rfl⟩
end
end Go.Proofs.YtgehfbcagaaggaaGreatDoor
end
section
namespace Go.Proofs.YtgehfbcagaaggaaGreatDoor
open Go Go.RowKit
set_option linter.unusedVariables false
set_option linter.unusedSimpArgs false
/-- The secret's bytes, out of a digest: 32 of them, clamped. -/
def clampS (ps : List UInt8) : List UInt8 := (((ps.set 0 (UInt8.ofNat ((ps.getD 0 0).toNat / 8 * 8))).set 31 (UInt8.ofNat ((ps.getD 31 0).toNat % 64 + 64)))).take 32
theorem longB_64 (xs : List UInt8) : (longB xs).length = 64 := longB_length xs
end Go.Proofs.YtgehfbcagaaggaaGreatDoor
end
