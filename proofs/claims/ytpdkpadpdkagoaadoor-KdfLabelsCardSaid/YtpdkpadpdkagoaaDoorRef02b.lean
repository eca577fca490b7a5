/-
  The document's own digest (package ratlineref02): turns, shifts, the table.
  The document's own digest: rows of words; what is put behind the text.
-/
import Derived.Test.YtpdkpadpdkagoaaDoorUv
import Derived.Test.YtpdkpadpdkagoaaDoorSha2
import Derived.Test.YtpdkpadpdkagoaaDoorQuiT
import Derived.Test.YtpdkpadpdkagoaaDoorShaP
import Derived.Test.YtpdkpadpdkagoaaDoorShaS
import Derived.Test.YtpdkpadpdkagoaaDoorQuiU
import Derived.Test.YtpdkpadpdkagoaaDoorLoops
namespace Go.Proofs.YtpdkpadpdkagoaaDoor
section
open Go.RowKit
set_option linter.unusedVariables false
set_option linter.unusedSimpArgs false

set_option maxHeartbeats 400000 in
theorem turnR_any (x n : Nat) (w : World) (hx : x < 4294967296) (hn : n ≤ 32) :
    Calls Tryd.prog 43 #[.int .u64 (x : Int), .int .i64 (n : Int)] w fun e w' => e = .returned (.int .u64 ((rotr x n : Nat) : Int)) ∧ w = w' := by
  have HE := hid (turnN_eq x n hn)
  go_enter Tryd.func43, Tryd.ntmps43
  go_wp2
  go_loopg [0, 5] n (fun g a i wr => ∃ k : Nat, k + g = n ∧ i = .int .i64 (k : Int) ∧ a = .int .u64 ((turnN x k : Nat) : Int) ∧ turnN x k < 4294967296 ∧ wr = w)
  case atStart => exact ⟨0, by omega, rfl, rfl, hx, rfl⟩
  case round =>
    obtain ⟨k, hk, rfl, rfl, hl, rfl⟩ := hrel
    have HK := hid hk
    have hkn : k ≤ n := by omega
    have hnx : turnN x (k + 1) = turn1 (turnN x k) := rfl
    obtain ⟨y, hy⟩ : ∃ y, y = turnN x k := ⟨_, rfl⟩
    rw [← hy] at hl hnx ⊢
    have hl2 := turn1_lt y hl
    unfold turn1 at hnx hl2
    have HNX := hid hnx; have HL2 := hid hl2; have HY := hid hy
    clear hk hnx hl2 hy
    by_cases hlt : k < n
    · have hki : (k : Int) < (n : Int) := by omega
      go_wp2
      have hk := HK.out
      go_roundg (n - k - 1)
      case measure => omega
      case rel => exact ⟨k + 1, by omega, by go_num, by rw [HNX.out]; go_num, by rw [HNX.out]; exact HL2.out, rfl⟩
    · obtain rfl : k = n := by omega
      have hki : ¬ (k : Int) < (k : Int) := by omega
      clear HK
      go_wp2
      go_ret
      exact ⟨ret_int (by rw [HY.out, HE.out]), rfl⟩

set_option maxHeartbeats 400000 in
theorem shiftR_any (x n : Nat) (w : World) (hx : x < 18446744073709551616) (hn : n ≤ 64) :
    Calls Tryd.prog 44 #[.int .u64 (x : Int), .int .i64 (n : Int)] w fun e w' => e = .returned (.int .u64 ((x / 2 ^ n : Nat) : Int)) ∧ w = w' := by
  go_enter Tryd.func44, Tryd.ntmps44
  go_wp2
  go_loopg [0, 5] n (fun g a i wr => ∃ k y : Nat, k + g = n ∧ i = .int .i64 (k : Int) ∧ a = .int .u64 (y : Int) ∧ y = x / 2 ^ k ∧ wr = w)
  case atStart => exact ⟨0, x, by omega, rfl, rfl, by simp, rfl⟩
  case round =>
    obtain ⟨k, y, hk, rfl, rfl, hy, rfl⟩ := hrel
    have hyl : y < 18446744073709551616 := by rw [hy]; exact Nat.lt_of_le_of_lt (Nat.div_le_self _ _) hx
    have HK := hid hk; have HY := hid hy
    have hkn : k ≤ n := by omega
    clear hk hy
    by_cases hlt : k < n
    · have hki : (k : Int) < (n : Int) := by omega
      go_wp2
      have hk := HK.out
      go_roundg (n - k - 1)
      case measure => omega
      case rel => exact ⟨k + 1, y / 2, by omega, by go_num, by go_num, by rw [HY.out, Nat.pow_succ, Nat.div_div_eq_div_mul], rfl⟩
    · obtain rfl : k = n := by omega
      have hki : ¬ (k : Int) < (k : Int) := by omega
      clear HK
      go_wp2
      go_ret
      exact ⟨ret_int (by rw [HY.out]; simp), rfl⟩
end

section
open Go.RowKit
set_option linter.unusedVariables false
set_option linter.unusedSimpArgs false

theorem infoU64 : (Tryd.prog.info? 44).map (fun i => (i.zero, i.size, i.bytes)) = some (some (.int .u64 0), 1, 8) := by kernel_rfl
/-- Block g holds the words xs from its beginning on. -/
def RowU (w : World) (g : Nat) (xs : List Nat) : Prop := ∃ cur : Array Value, w.heap[g]? = some (.cells cur 44 (0, 0)) ∧ ∀ (j x : Nat), xs[j]? = some x → cur[j]? = some (.int .u64 (x : Int))
section
variable {w w' : World} {g : Nat} {xs : List Nat}
theorem RowU.lt (h : RowU w g xs) : g < w.heap.size := by obtain ⟨cur, h1, _⟩ := h; exact block_lt h1
theorem RowU.keep (h : RowU w g xs) (hk : w'.heap[g]? = w.heap[g]?) : RowU w' g xs := by obtain ⟨cur, h1, h2⟩ := h; exact ⟨cur, hk.trans h1, h2⟩
theorem RowU.cell (h : RowU w g xs) {j x : Nat} (hx : xs[j]? = some x) : w.cell? ⟨g, j, none⟩ = some (.int .u64 (x : Int)) := by obtain ⟨cur, h1, h2⟩ := h; exact cell_of h1 j _ (h2 j x hx)
theorem RowU.frz (h : RowU w g xs) (j : Nat) : w.frozen? ⟨g, j, none⟩ = false := by obtain ⟨cur, h1, h2⟩ := h; exact frozen_of_row _ _ _ _ _ h1
theorem RowU.set (h : RowU w g xs) (j y : Nat) (hj : j < xs.length) : RowU (w.setCell ⟨g, j, none⟩ (.int .u64 (y : Int))) g (xs.set j y) := by
  obtain ⟨cur, h1, h2⟩ := h
  have hc : j < cur.size := (Array.getElem?_eq_some_iff.1 (h2 j _ (List.getElem?_eq_getElem hj))).1
  refine ⟨_, block_set h1 j _, fun i x hx => ?_⟩
  rw [Array.getElem?_setIfInBounds]
  by_cases e : j = i
  · subst e
    rw [List.getElem?_set_self hj] at hx
    injection hx with hx
    rw [if_pos rfl, if_pos hc, hx]
  · rw [List.getElem?_set_ne e] at hx
    rw [if_neg e]; exact h2 i x hx
theorem RowU.of_own {base n c : Nat} (h : w.ownsRow base 44 1 (.slice (some ⟨g, 0, none⟩) n c) n (uvs xs)) : RowU w g xs := by
  obtain ⟨hl, h⟩ := h
  rcases h with ⟨h1, _⟩ | ⟨g', cap, cur, hv, hb, hg, h1, h2, h3, h4⟩
  · simp at h1
  · simp only [Value.slice.injEq, Option.some.injEq, Addr.mk.injEq] at hv
    obtain ⟨⟨rfl, _⟩, _, rfl⟩ := hv
    refine ⟨cur, hg, fun j x hx => ?_⟩
    have hu : (uvs xs)[j]? = some (.int .u64 (x : Int)) := by rw [uvs, List.getElem?_map, hx]; rfl
    rw [← h4, List.getElem?_take] at hu
    split at hu
    · rw [Array.getElem?_toList] at hu; exact hu
    · cases hu
end
theorem uvs_get {w : World} {B : Nat} {A : Option Addr} {c : Nat} {xs : List Nat} (h : Sq w B A c (uvs xs)) {k : Nat} (hk : k < xs.length) : ∃ b o, A = some ⟨b, o, none⟩ ∧ b < B ∧ w.cell? ⟨b, o + k, none⟩ = some (.int .u64 ((xs.getD k 0 : Nat) : Int)) := by
  obtain ⟨b, o, hA, hb, hc⟩ := h.lie.at_ (k := k) (by simpa using hk)
  refine ⟨b, o, hA, hb, ?_⟩
  rw [hc, List.getD_eq_getElem?_getD, List.getElem?_eq_getElem hk]
  simp [uvs]
theorem emptyR_row (W : World) (e : TypeId) {k base : Nat} (h : W.heap.size = k) (hb : base ≤ k) : (W.alloc (.cells #[] e)).ownsRow base e 1 (.slice (some ⟨k, 0, none⟩) 0 0) 0 [] := by
  subst h
  exact World.ownsRow_lit W #[] 0 hb (by simp) rfl
theorem ownU_form {w : World} {base n : Nat} {e : TypeId} {v : Value} {xs : List Value} (h : w.ownsRow base e 1 v n xs) (hn : 0 < n) : ∃ g c, v = .slice (some ⟨g, 0, none⟩) n c ∧ base ≤ g ∧ g < w.heap.size ∧ n ≤ c ∧ c ≤ 9223372036854775807 := by
  obtain ⟨hl, h⟩ := h
  rcases h with ⟨_, h2⟩ | ⟨g', cap, cur, hv, hb, hg, h1, h2, h3, h4⟩
  · omega
  · exact ⟨g', cap, hv, hb, block_lt hg, h1, by simpa [maxLen] using h2⟩
/-- What holds when the text is laid out: the eight beginnings in a row of the call's own, the text, the mark, the noughts and the count in another. -/
def Laid (w : World) (s : St) (mm : List UInt8) (hv mv : Value) (wr : World) : Prop :=
  ∃ gh ch gm cm : Nat, hv = .slice (some ⟨gh, 0, none⟩) 8 ch ∧ mv = .slice (some ⟨gm, 0, none⟩) mm.length cm ∧ RowU wr gh s.list ∧ Lie wr (gm + 1) (some ⟨gm, 0, none⟩) (bvs mm) ∧
    w.heap.size ≤ gh ∧ gh < gm ∧ gm < wr.heap.size ∧ mm.length ≤ cm ∧ 8 ≤ ch ∧ Below w.heap.size w wr

/-- The call owns the words. -/
def OwnU (w : World) (B : Nat) (v : Value) (xs : List Nat) : Prop := w.ownsRow B 44 1 v xs.length (uvs xs)
theorem ownu_snoc {w : World} {B : Nat} {v : Value} {xs : List Nat} {n y : Nat} {z : Int} (h : w.ownsRow B 44 1 v n (uvs xs ++ [.int .u64 z])) (hn : n = xs.length + 1) (hz : z = (y : Int)) : OwnU w B v (xs ++ [y]) := by
  subst hn; subst hz
  unfold OwnU
  rw [uvs_append]
  simpa [uvs] using h
theorem ownu_nil (w : World) (B : Nat) : OwnU w B (.slice none 0 0) [] := ⟨rfl, .inl ⟨rfl, rfl⟩⟩
theorem byte_cell {w : World} {B b o : Nat} {xs : List UInt8} (h : Lie w B (some ⟨b, o, none⟩) (bvs xs)) {k : Nat} (hk : k < xs.length) : w.cell? ⟨b, o + k, none⟩ = some (.int .u8 (((xs.getD k 0).toNat : Nat) : Int)) := by
  obtain ⟨b', o', h1, _, h2⟩ := h.byte hk
  simp only [Option.some.injEq, Addr.mk.injEq] at h1
  obtain ⟨rfl, rfl, _⟩ := h1
  rw [h2, List.getD_eq_getElem?_getD, List.getElem?_eq_getElem hk]; rfl
theorem word_cell {w : World} {B b o : Nat} {xs : List Nat} (h : Lie w B (some ⟨b, o, none⟩) (uvs xs)) {k : Nat} (hk : k < xs.length) : w.cell? ⟨b, o + k, none⟩ = some (.int .u64 ((xs.getD k 0 : Nat) : Int)) := by
  obtain ⟨b', o', h1, _, h2⟩ := h.at_ (k := k) (by simpa using hk)
  simp only [Option.some.injEq, Addr.mk.injEq] at h1
  obtain ⟨rfl, rfl, _⟩ := h1
  rw [h2, List.getD_eq_getElem?_getD, List.getElem?_eq_getElem hk]; simp [uvs]
theorem RowU.lie {w : World} {g : Nat} {xs : List Nat} (h : RowU w g xs) : Lie w (g + 1) (some ⟨g, 0, none⟩) (uvs xs) := fun _ =>
  ⟨g, 0, rfl, by omega, fun j x hx => by
    rw [Nat.zero_add]
    have hj : j < xs.length := by
      have := (List.getElem?_eq_some_iff.1 hx).1
      simpa using this
    have h2 := h.cell (List.getElem?_eq_getElem hj)
    rw [h2, ← hx, uvs, List.getElem?_map, List.getElem?_eq_getElem hj]; rfl⟩
theorem turnR_l (x n : Nat) (z : Int) (a : Nat) (hx : x < 4294967296) (hn : n ≤ 32) (hz : z = (n : Int)) (ha : a = rotr x n) (w : World) (k : Nat) :
    Calls Tryd.prog 43 #[.int .u64 (x : Int), .int .i64 z] (w.drewN k) fun e w'' => e = .returned (.int .u64 (a : Int)) ∧ ∃ m, w'' = w.drewN m := by
  subst hz; subst ha
  exact (turnR_any x n _ hx hn).mono fun _ _ h => ⟨h.1, k, h.2.symm⟩
theorem shiftR_l (x n : Nat) (z : Int) (a : Nat) (hx : x < 18446744073709551616) (hn : n ≤ 64) (hz : z = (n : Int)) (ha : a = x / 2 ^ n) (w : World) (k : Nat) :
    Calls Tryd.prog 44 #[.int .u64 (x : Int), .int .i64 z] (w.drewN k) fun e w'' => e = .returned (.int .u64 (a : Int)) ∧ ∃ m, w'' = w.drewN m := by
  subst hz; subst ha
  exact (shiftR_any x n _ hx hn).mono fun _ _ h => ⟨h.1, k, h.2.symm⟩
theorem xor3_u64 (a b c : Nat) (ha : a < 4294967296) (hb : b < 4294967296) (hc : c < 4294967296) : bits .xor .u64 (bits .xor .u64 (a : Int) (b : Int)) (c : Int) = ((a ^^^ b ^^^ c : Nat) : Int) := by
  have hab : a ^^^ b < 4294967296 := Nat.xor_lt_two_pow (n := 32) ha hb
  rw [bits_xor_u64_nat _ _ (by omega) (by omega), bits_xor_u64_nat _ _ (by omega) (by omega)]
theorem bit_q (x z : Nat) (hx : x < 4294967296) : ∃ X X2 : Nat, IntKind.u64.wrap ((x : Int) / (z : Int)) = (X : Int) ∧ Int.tmod (X : Int) 2 = (X2 : Int) ∧ X2 = x / z % 2 ∧ X2 < 2 := by
  refine ⟨x / z, x / z % 2, ?_, (Int.ofNat_tmod _ 2).symm, rfl, Nat.mod_lt _ (by omega)⟩
  have := Nat.div_le_self x z
  rw [show (x : Int) / (z : Int) = ((x / z : Nat) : Int) from rfl]
  generalize x / z = d at *
  rw [IntKind.wrap_u64]; omega
theorem bit_mul (x y z : Nat) (hx : x < 2) (hz : z < 4294967296) (hy : y < z) : ∃ p r : Nat, IntKind.u64.wrap ((x : Int) * (z : Int)) = (p : Int) ∧ IntKind.u64.wrap ((y : Int) + (p : Int)) = (r : Int) ∧ r = y + x * z := by
  have h := Nat.mul_le_mul_right z (show x ≤ 1 by omega)
  refine ⟨x * z, y + x * z, ?_, ?_, rfl⟩
  · rw [← Int.natCast_mul, IntKind.wrap_u64]; omega
  · rw [IntKind.wrap_u64]; omega
/-- A word's first k bytes. -/
def wk (m : List UInt8) (t : Nat) : Nat → Nat
  | 0 => 0
  | k + 1 => 256 * wk m t k + (m.getD (4 * t + k) 0).toNat
theorem wk_lt (m : List UInt8) (t k : Nat) : wk m t k < 256 ^ k := by
  induction k with
  | zero => simp [wk]
  | succ k ih =>
    have := (m.getD (4 * t + k) 0).toNat_lt
    rw [Nat.pow_succ, wk]; omega
theorem wk_end (m : List UInt8) (t : Nat) : wk m t 4 = word4 m t := by
  simp only [wk, word4, Nat.add_zero]; omega
theorem block_getD (zs : List UInt8) (j k : Nat) (h : k < 64) : ((zs.drop (64 * j)).take 64).getD k 0 = zs.getD (64 * j + k) 0 := by
  rw [List.getD_eq_getElem?_getD, List.getElem?_take_of_lt h, List.getElem?_drop, List.getD_eq_getElem?_getD]
theorem wordsTo_low (m : List UInt8) (t : Nat) (h : t < 16) : wordsTo m (t + 1) = wordsTo m t ++ [word4 m t] := by simp only [wordsTo, if_pos h]
theorem wordsTo_high (m : List UInt8) (t : Nat) (h : ¬ t < 16) : wordsTo m (t + 1) = wordsTo m t ++ [(s1 ((wordsTo m t).getD (t - 2) 0) + (wordsTo m t).getD (t - 7) 0 + s0 ((wordsTo m t).getD (t - 15) 0) + (wordsTo m t).getD (t - 16) 0) % 4294967296] := by simp only [wordsTo, if_neg h]
end
end Go.Proofs.YtpdkpadpdkagoaaDoor
