/-
  Texts of this claim in one file: Row4.
-/
import Derived.Test.YtgehfbcagaaggaaGreatDoorPk30
import Derived.Deep.WholeRow
import Derived.Deep.MidRow
section
namespace Go.Proofs.YtgehfbcagaaggaaGreatDoor
open Go.RowKit
set_option linter.unusedVariables false
set_option linter.unusedSimpArgs false
/-- Four words. -/
abbrev e4 (a b c d : Nat) : Array Value := #[.int .u64 (a : Int), .int .u64 (b : Int), .int .u64 (c : Int), .int .u64 (d : Int)]
/-- A number's four words. -/
def eA (n : Nat) : Array Value := e4 (n % 18446744073709551616) (n / 18446744073709551616 % 18446744073709551616) (n / 340282366920938463463374607431768211456 % 18446744073709551616) (n / 6277101735386680763835789423207666416102355444464034512896 % 18446744073709551616)
theorem eA_of (a b c d : Nat) (ha : a < 18446744073709551616) (hb : b < 18446744073709551616) (hc : c < 18446744073709551616) (hd : d < 18446744073709551616) :
    eA (a + 18446744073709551616 * b + 340282366920938463463374607431768211456 * c + 6277101735386680763835789423207666416102355444464034512896 * d) = e4 a b c d := by
  unfold eA
  congr 5
  all_goals congr 3
  all_goals omega
theorem words (n : Nat) (hn : n < 115792089237316195423570985008687907853269984665640564039457584007913129639936) : ∃ a b c d, a < 18446744073709551616 ∧ b < 18446744073709551616 ∧ c < 18446744073709551616 ∧ d < 18446744073709551616 ∧
    n = a + 18446744073709551616 * b + 340282366920938463463374607431768211456 * c + 6277101735386680763835789423207666416102355444464034512896 * d ∧ eA n = e4 a b c d :=
  ⟨n % 18446744073709551616, n / 18446744073709551616 % 18446744073709551616, n / 340282366920938463463374607431768211456 % 18446744073709551616, n / 6277101735386680763835789423207666416102355444464034512896 % 18446744073709551616,
    by omega, by omega, by omega, by omega, by omega, rfl⟩
theorem e4_one (a b c d : Nat) : (e4 a b c d).all (·.oneCell') = true := by simp [Value.oneCell']
theorem sizeE4 (a b c d a' b' c' d' : Nat) : (e4 a b c d).size = (e4 a' b' c' d').size := rfl
theorem belowRow {B : Nat} {a w : World} (h : Below B a w) {g : Nat} (hg : B ≤ g) (cs : Array Value) : Below B a (w.setRow g cs) :=
  ⟨h.os, h.tape, h.output, by rw [size_setRow]; exact h.size, fun k hk => (setRow_other w g k cs (by omega)).trans (h.block k hk)⟩
theorem blkN {w : World} {k : Nat} (hk : w.heap.size = k) (cs : Array Value) (t : TypeId) : (w.alloc (.cells cs t)).heap[k]? = some (.cells cs t (0, 0)) := by subst hk; exact heap_alloc_new w _
theorem blkA {w : World} {k : Nat} {cs : Array Value} {t : TypeId} (h : w.heap[k]? = some (.cells cs t (0, 0))) (o : Obj) : (w.alloc o).heap[k]? = some (.cells cs t (0, 0)) := block_grown h (World.grownBy_alloc w o none) (by simp)
theorem block_below {B : Nat} {a w : World} (h : Below B a w) {k : Nat} {o : Obj} (hk : k < B) (hg : a.heap[k]? = some o) : w.heap[k]? = some o := by rw [h.block k hk]; exact hg
abbrev z4 : Array Value := #[.int .u64 0, .int .u64 0, .int .u64 0, .int .u64 0]
theorem sizeEA (n m : Nat) : (eA n).size = (eA m).size := rfl
theorem sizeZA (m : Nat) : z4.size = (eA m).size := rfl
theorem oneEA (n : Nat) : (eA n).all (·.oneCell') = true := e4_one _ _ _ _
theorem results_two_e {fn : Func} {p q : Tmp} {ty : TypeId} (h : fn.results = #[.cell p ty, .cell q ty]) (tmps : Array Value) (w : World) (a b : Addr) (u v : Value) {P : Program}
    (hp : tmps.getD p undef = .pointer (some a)) (hq : tmps.getD q undef = .pointer (some b)) (hl : (loadVar ty a).run P w = .ok u w) (hm : (loadVar ty b).run P w = .ok v w) :
    (results fn tmps).run P w = .ok (.tuple #[u, v]) w := by
  have hp' : tmps[p]?.getD undef = .pointer (some a) := by rw [← hp]; simp [Array.getD_eq_getD_getElem?]
  have hq' : tmps[q]?.getD undef = .pointer (some b) := by rw [← hq]; simp [Array.getD_eq_getD_getElem?]
  simp [results, h, hp', hq', asAddr, hl, hm]
/-- A word of a number. -/
theorem eA_get (x k : Nat) (hk : k < 4) : (eA x)[k]? = some (.int .u64 ((x / 18446744073709551616 ^ k % 18446744073709551616 : Nat) : Int)) := by
  have hk4 : k = 0 ∨ k = 1 ∨ k = 2 ∨ k = 3 := by omega
  unfold eA
  rcases hk4 with rfl | rfl | rfl | rfl
  · rw [Nat.pow_zero, Nat.div_one]; rfl
  · rw [Nat.pow_one]; rfl
  · rw [show (18446744073709551616 : Nat) ^ 2 = 340282366920938463463374607431768211456 by decide]; rfl
  · rw [show (18446744073709551616 : Nat) ^ 3 = 6277101735386680763835789423207666416102355444464034512896 by decide]; rfl
/-- A byte of a word is a byte of the number. -/
theorem word_byte (x i j : Nat) (hj : j < 8) : UInt8.ofNat (x / 18446744073709551616 ^ i % 18446744073709551616 / 256 ^ j) = UInt8.ofNat (x / 256 ^ (8 * i + j)) := by
  have e : (256 : Nat) ^ (8 * i + j) = 18446744073709551616 ^ i * 256 ^ j := by
    rw [Nat.pow_add, Nat.pow_mul]
  rw [e, ← Nat.div_div_eq_div_mul]
  generalize x / 18446744073709551616 ^ i = y
  apply UInt8.toNat_inj.1
  simp only [UInt8.toNat_ofNat']
  have h8 : (18446744073709551616 : Nat) = 256 ^ j * (256 * 256 ^ (7 - j)) := by
    rw [← Nat.pow_succ', ← Nat.pow_add, show j + (7 - j).succ = 8 by omega]
  rw [h8, Nat.mod_mul_right_div_self, Nat.mod_mul_right_mod]
theorem eA_small (n : Nat) (h : n < 18446744073709551616) : eA n = e4 n 0 0 0 := by have h := eA_of n 0 0 0 h (by omega) (by omega) (by omega); simpa using h
/-- A cell and a slot as results. -/
theorem results_ct {fn : Func} {q p : Tmp} {ty : TypeId} (h : fn.results = #[.cell p ty, .tmp q]) (tmps : Array Value) (w : World) (a : Addr) (u v : Value) {P : Program}
    (hp : tmps.getD p undef = .pointer (some a)) (hv : tmps.getD q undef = v) (hl : (loadVar ty a).run P w = .ok u w) :
    (results fn tmps).run P w = .ok (.tuple #[u, v]) w := by
  have hv' : tmps[q]?.getD undef = v := by rw [← hv]; simp [Array.getD_eq_getD_getElem?]
  have hp' : tmps[p]?.getD undef = .pointer (some a) := by rw [← hp]; simp [Array.getD_eq_getD_getElem?]
  simp [results, h, hv', hp', asAddr, hl]
end Go.Proofs.YtgehfbcagaaggaaGreatDoor
end
