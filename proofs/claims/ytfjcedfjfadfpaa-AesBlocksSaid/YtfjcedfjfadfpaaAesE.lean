/-
  Package aes: a square's bytes.
-/
import Derived.Test.YtfjcedfjfadfpaaAesB
import Derived.Deep.OwnRows
namespace Go.Proofs.Ytfjcedfjfadfpaa
open Go.RowKit
set_option linter.unusedVariables false
set_option linter.unusedSimpArgs false

theorem bvs_cell (xs : List UInt8) (j : Nat) (h : j < xs.length) : (bvs xs)[j]? = some (.int .u8 (xs[j].toNat : Int)) := by simp [bvs, h]
theorem bvs_set_at (xs : List UInt8) (k : Nat) (y : UInt8) : bvs (xs.set k y) = (bvs xs).set k (.int .u8 (y.toNat : Int)) := by
  unfold bvs; rw [List.map_set]
/-- Sixteen bytes. -/
def blkL (S : Nat → Nat) : List UInt8 := (List.range 16).map fun i => UInt8.ofNat (S i)
theorem blkL_length (S : Nat → Nat) : (blkL S).length = 16 := by simp [blkL]
theorem blkL_congr {S T : Nat → Nat} (h : ∀ i, i < 16 → S i = T i) : blkL S = blkL T := by
  unfold blkL
  exact List.map_congr_left fun i hi => by rw [h i (by simpa using hi)]
theorem blkL_at (S : Nat → Nat) (i : Nat) (h : i < 16) : (blkL S)[i]'(by rw [blkL_length]; exact h) = UInt8.ofNat (S i) := by simp [blkL]
theorem blkL_set (S : Nat → Nat) (k v : Nat) : (blkL S).set k (UInt8.ofNat v) = blkL fun q => if q = k then v else S q := by
  apply List.ext_getElem
  · simp [blkL]
  · intro i h1 h2
    rw [List.getElem_set]
    have hi : i < 16 := by simpa [blkL] using h2
    rw [blkL_at (fun q => if q = k then v else S q) i hi]
    by_cases h : k = i
    · rw [if_pos h, if_pos h.symm]
    · rw [if_neg h, if_neg (Ne.symm h), blkL_at _ i hi]
theorem ofNat_b {v : Nat} (h : v < 256) : (((UInt8.ofNat v).toNat : Nat) : Int) = (v : Int) := by rw [ofNat_val]; omega
def bR (S : Nat → Nat) : Array Value := (bvs (blkL S)).toArray
theorem bR_get (S : Nat → Nat) (hS : ∀ i, S i < 256) (k : Nat) (h : k < 16) : (bR S)[k]? = some (.int .u8 ((S k : Nat) : Int)) := by
  unfold bR
  rw [List.getElem?_toArray, bvs_cell _ k (by rw [blkL_length]; exact h), blkL_at _ k h, ofNat_b (hS k)]
theorem bR_set (S : Nat → Nat) (k v : Nat) (hv : v < 256) : (bR S).setIfInBounds k (.int .u8 (v : Int)) = bR fun q => if q = k then v else S q := by
  unfold bR
  rw [← blkL_set, bvs_set_at, ofNat_b hv, List.setIfInBounds_toArray]
theorem bR_congr {S T : Nat → Nat} (h : ∀ i, i < 16 → S i = T i) : bR S = bR T := by unfold bR; rw [blkL_congr h]
theorem mk16 (W : World) : (Instr.makeSlice 28 (.int .i64 16) (.int .i64 16)).run Try.prog W = .ok (.slice (some ⟨W.heap.size, 0, none⟩) 16 16) (W.alloc (.cells (bR fun _ => 0) 5)) := by
  have h := run_make_row' (P := Try.prog) 28 5 (.int .u8 0) 1 Try.underlying28 infoU8 rfl .i64 .i64 16 (by omega) (by omega) W
  have hz : madeCells #[Value.int .u8 0] 16 = bR fun _ => 0 := by
    have e := toList_madeCells_one (Value.int .u8 0) 16
    refine Array.toList_inj.1 ?_
    rw [e]
    rfl
  rw [hz] at h
  exact h
theorem col_byte {S : Nat → Nat} (hS : ∀ i, S i < 256) (k : Nat) : col S (k / 4) / 2 ^ (8 * (k % 4)) % 256 = S k := by
  have e : S k = S (4 * (k / 4) + k % 4) := by congr 1; omega
  have hr : k % 4 < 4 := Nat.mod_lt _ (by decide)
  rw [e]
  generalize k / 4 = q at *
  generalize k % 4 = r at *
  have h0 := hS (4 * q + 0)
  have h1 := hS (4 * q + 1)
  have h2 := hS (4 * q + 2)
  have h3 := hS (4 * q + 3)
  have hc : col S q = S (4 * q + 0) + 256 * (S (4 * q + 1) + 256 * (S (4 * q + 2) + 256 * (S (4 * q + 3) + 256 * 0))) := rfl
  have h : r = 0 ∨ r = 1 ∨ r = 2 ∨ r = 3 := by omega
  rcases h with rfl | rfl | rfl | rfl <;> (try simp only [Nat.mul_zero, Nat.pow_zero, Nat.div_one, Nat.reduceMul, Nat.reducePow]) <;> omega
set_option maxHeartbeats 1000000 in
theorem sqbytes_any (S : Nat → Nat) (w : World) (hS : ∀ i, S i < 256) :
    Calls Try.prog 22 #[.agg (qF (col S))] w fun e w' => ∃ v, e = .returned v ∧ OwnB w' w.heap.size v (blkL S) ∧ Below w.heap.size w w' := by
  have HS := hid hS
  have hmk := mk16
  clear hS
  go_enter Try.func22, Try.ntmps22
  go_wp2
  clear hmk
  have h0 : ((w.alloc (.cells (qF (col S)) SQT)).alloc (.cells (bR fun _ => 0) 5)).heap[w.heap.size]? = some (.cells (qF (col S)) SQT (0, 0)) := blkA (blkN rfl _ _) _
  have h1 : ((w.alloc (.cells (qF (col S)) SQT)).alloc (.cells (bR fun _ => 0) 5)).heap[w.heap.size + 1]? = some (.cells (bR (cut S 0)) 5 (0, 0)) := (blkN (by simp) _ _).trans (by
    have e : bR (fun _ => 0) = bR (cut S 0) := bR_congr fun i _ => by simp [cut]
    rw [e])
  have hb : Below w.heap.size w ((w.alloc (.cells (qF (col S)) SQT)).alloc (.cells (bR fun _ => 0) 5)) :=
    ((Below.refl _ _).alloc (Nat.le_refl _) _).alloc (by simp) _
  have H0 := hid h0; have H1 := hid h1; have HB := hid hb
  clear h0 h1 hb
  generalize (w.alloc (.cells (qF (col S)) SQT)).alloc (.cells (bR fun _ => 0) 5) = w0 at *
  go_loopg [8] 16 (fun g i wr => ∃ k : Nat, k + g = 16 ∧ i = .int .i64 (k : Int) ∧ wr.heap[w.heap.size]? = some (.cells (qF (col S)) SQT (0, 0)) ∧ wr.heap[w.heap.size + 1]? = some (.cells (bR (cut S k)) 5 (0, 0)) ∧ Below w.heap.size w wr)
  case atStart => exact ⟨0, by omega, rfl, H0.out, H1.out, HB.out⟩
  case round =>
    clear H0 H1 HB
    obtain ⟨k, hk, rfl, h0, h1, hb⟩ := hrel
    have HK := hid hk; have HB := hid hb; have H0 := hid h0; have H1 := hid h1
    have hkn : k ≤ 16 := by omega
    clear hk hb h0 h1
    by_cases hlt : k < 16
    · have hx : (k : Int) < 16 := by omega
      have hk0 : (0 : Int) ≤ (k : Int) := by omega
      obtain ⟨q, hq⟩ : ∃ q, q = k / 4 := ⟨_, rfl⟩
      obtain ⟨r, hr⟩ : ∃ r, r = k % 4 := ⟨_, rfl⟩
      obtain ⟨s, hs⟩ : ∃ s, s = 8 * r := ⟨_, rfl⟩
      obtain ⟨hq1, hq2, hqw⟩ := quo4 hq (by omega)
      obtain ⟨hr1, hr2, hrw⟩ := rem4 hr (by omega)
      have hr4 : r < 4 := by omega
      have hq4 : q < 4 := by omega
      have hq4i : (q : Int) < 4 := by omega
      have hq0i : (0 : Int) ≤ (q : Int) := by omega
      have hsw := mul8 hs hr4
      have hs0 : (0 : Int) ≤ (s : Int) := by omega
      have hmin : min s 32 = s := by omega
      have hcb := col_byte HS.out k
      rw [← hq, ← hr, ← hs] at hcb
      obtain ⟨W0, hW0⟩ : ∃ W0, W0 = col S q := ⟨_, rfl⟩
      rw [← hW0] at hcb
      obtain ⟨y, hy⟩ : ∃ y, y = S k := ⟨_, rfl⟩
      have hyl : y < 256 := by rw [hy]; exact HS.out k
      rw [← hy] at hcb
      obtain ⟨d, hd⟩ : ∃ d, d = W0 / 2 ^ s := ⟨_, rfl⟩
      rw [← hd] at hcb
      have hdv : (W0 : Int) / 2 ^ s = (d : Int) := by rw [hd]; simp
      have hdm : (d : Int) % 256 = (y : Int) := by omega
      have hdw : IntKind.u8.wrap (d : Int) = (y : Int) := by rw [IntKind.wrap_u8]; exact hdm
      have hct : wr.cell? ⟨w.heap.size, q, none⟩ = some (.int .u32 (W0 : Int)) := cell_of H0.out q _ (by rw [qF_get _ q hq4, hW0])
      have hcs : wr.cell? ⟨w.heap.size + 1, k, none⟩ = some (.int .u8 ((cut S k k : Nat) : Int)) := cell_of H1.out k _ (bR_get _ (cut_lt HS.out k) k hlt)
      have hft : wr.frozen? ⟨w.heap.size + 1, k, none⟩ = false := frozen_of_row _ _ _ _ _ H1.out
      have hwi : IntKind.i64.wrap ((k : Int) + 1) = ((k + 1 : Nat) : Int) := (IntWalk.i64_in _ (by omega)).trans (by omega)
      have HW : Hid ((wr.setCell ⟨w.heap.size + 1, k, none⟩ (.int .u8 (y : Int))).heap[w.heap.size + 1]? = some (.cells (bR (cut S (k + 1))) 5 (0, 0))) := hid ((block_set H1.out k _).trans (by
        rw [bR_set _ _ _ hyl]
        have e : bR (fun q => if q = k then y else cut S k q) = bR (cut S (k + 1)) := bR_congr fun i _ => by
          unfold cut
          by_cases h : i = k
          · rw [if_pos h, if_pos (by omega), hy, h]
          · rw [if_neg h]
            by_cases h2 : i < k
            · rw [if_pos h2, if_pos (by omega)]
            · rw [if_neg h2, if_neg (by omega)]
        rw [e]))
      clear hcb hW0 hy hyl hd hq hr hs hr4 hq4
      go_wp2
      have hk := HK.out
      go_roundg (16 - k - 1)
      case measure => omega
      case rel => exact ⟨k + 1, by omega, rfl, (heap_setCell_other _ _ _ _ (by simp)).trans H0.out, HW.out, HB.out.setCell (by simp) _⟩
    · have hk16 : k = 16 := by omega
      have H1' : Hid (wr.heap[w.heap.size + 1]? = some (.cells (bR S) 5 (0, 0))) := hid (H1.out.trans (by
        have e : bR (cut S k) = bR S := bR_congr fun i hi => if_pos (by omega)
        rw [e]))
      have hxi : ¬ (k : Int) < 16 := by omega
      clear hk16 H1
      go_wp2
      go_ret
      refine ⟨_, rfl, ⟨by rw [bvs_length, blkL_length], .inr ⟨w.heap.size + 1, 16, bR S, ?_, by omega, H1'.out, by rw [blkL_length]; omega, by unfold maxLen; omega, ?_, ?_⟩⟩, HB.out⟩
      · rw [blkL_length]; rfl
      · simp [bR, blkL_length]
      · unfold bR; rw [List.take_of_length_le (by simp [blkL_length])]
end Go.Proofs.Ytfjcedfjfadfpaa
