/-
  Texts of this claim in one file: ScK.
-/
import Derived.Test.YtgehfbcagaaggaaGreatDoorPk36
import Derived.Test.YtgehfbcagaaggaaGreatDoorPk31
import Derived.Test.YtgehfbcagaaggaaGreatDoorPk37
import Derived.Test.YtgehfbcagaaggaaGreatDoorPk33
section
namespace Go.Proofs.YtgehfbcagaaggaaGreatDoor
open Go.RowKit
set_option linter.unusedVariables false
set_option linter.unusedSimpArgs false
abbrev ST : TypeId := 62
theorem infoS : (Tryz.prog.info? ST).map (·.size) = some 4 := by kernel_rfl
/-- A scalar, as the code holds it. -/
def sA (n : Nat) : Array Value := eA n
def zS : Array Value := z4
theorem zS_is : zS = sA 0 := by unfold sA; rw [eA_small 0 (by omega)]; rfl
theorem zeroS : (Tryz.prog.info? ST).map (fun i => (i.zero, i.size)) = some (some (.agg zS), 4) := by kernel_rfl
theorem infoSA (n : Nat) : (Tryz.prog.info? ST).map (·.size) = some (sA n).size := infoS
theorem oneSA (n : Nat) : (sA n).all (·.oneCell') = true := oneEA n
theorem sizeZS (n : Nat) : zS.size = (sA n).size := rfl
theorem sA_all (n : Nat) : (sA n).extract 0 (0 + (sA n).size) = sA n := rfl
/-- A scalar's call that answers a scalar. -/
def ScR (w : World) (n : Nat) (e : Ending) (w' : World) : Prop := e = .returned (.agg (sA n)) ∧ Below w.heap.size w w'
theorem sizeZ4 (n : Nat) : z4.size = (sA n).size := rfl
theorem sum_s (x y : Nat) (w : World) (h : x + y < 115792089237316195423570985008687907853269984665640564039457584007913129639936) :
    Calls Tryz.prog 72 #[.agg (sA x), .agg (sA y)] w (ScR w (x + y)) := by
  obtain ⟨a, b, c, d, ha, hb, hc, hd, hx, ex⟩ := words x (by omega)
  obtain ⟨a', b', c', d', ha', hb', hc', hd', hy, ey⟩ := words y (by omega)
  unfold ScR sA
  rw [ex, ey]
  have h1 := Add64_run a a'
  obtain ⟨s1, hs1⟩ : ∃ s, s = (a + a') % 18446744073709551616 := ⟨_, rfl⟩
  obtain ⟨o1, ho1⟩ : ∃ o, o = (a + a') / 18446744073709551616 := ⟨_, rfl⟩
  rw [← hs1, ← ho1] at h1
  have h2 := Add64_c b b' o1 (by omega)
  obtain ⟨s2, hs2⟩ : ∃ s, s = (b + b' + o1) % 18446744073709551616 := ⟨_, rfl⟩
  obtain ⟨o2, ho2⟩ : ∃ o, o = (b + b' + o1) / 18446744073709551616 := ⟨_, rfl⟩
  rw [← hs2, ← ho2] at h2
  have h3 := Add64_c c c' o2 (by omega)
  obtain ⟨s3, hs3⟩ : ∃ s, s = (c + c' + o2) % 18446744073709551616 := ⟨_, rfl⟩
  obtain ⟨o3, ho3⟩ : ∃ o, o = (c + c' + o2) / 18446744073709551616 := ⟨_, rfl⟩
  rw [← hs3, ← ho3] at h3
  obtain ⟨s4, hs4⟩ : ∃ s, s = d + d' + o3 := ⟨_, rfl⟩
  have hs4l : s4 < 18446744073709551616 := by omega
  have w1 : IntKind.u64.wrap ((d' : Int) + (o3 : Int)) = (d' : Int) + (o3 : Int) := by rw [IntKind.wrap_u64]; omega
  have w2 : IntKind.u64.wrap ((d : Int) + ((d' : Int) + (o3 : Int))) = (s4 : Int) := by rw [IntKind.wrap_u64]; omega
  have hv : x + y = s1 + 18446744073709551616 * s2 + 340282366920938463463374607431768211456 * s3 + 6277101735386680763835789423207666416102355444464034512896 * s4 := by omega
  have he : eA (x + y) = e4 s1 s2 s3 s4 := by rw [hv]; exact eA_of _ _ _ _ (by omega) (by omega) (by omega) hs4l
  have HE := hid he
  clear h hx hy ex ey hs1 ho1 hs2 ho2 hs3 ho3 hs4 hv he ha hb hc hd ha' hb' hc' hd' hs4l
  go_enter Tryz.func72, Tryz.ntmps72
  go_wp2
  refine bodyPost_ret (v := .agg (e4 s1 s2 s3 s4)) (results_cell_row rfl _ _ (w.heap.size + 1 + 1) ST _ (0, 0) _ rfl (blkN (by simp) _ _) Tryz.underlying62 rfl infoS) rfl ⟨by rw [HE.out], ?_⟩
  exact (((Below.refl _ _).alloc (Nat.le_refl _) _).alloc (by simp) _).alloc (by simp; omega) _
/-- One, if x is below y. -/
def bor (x y : Nat) : Nat := if x < y then 1 else 0
theorem sub_num {x y S o : Nat} (hv : x + 115792089237316195423570985008687907853269984665640564039457584007913129639936 * o = S + y) (ho : o ≤ 1) (hx : x < 115792089237316195423570985008687907853269984665640564039457584007913129639936) (hy : y < 115792089237316195423570985008687907853269984665640564039457584007913129639936) (hS : S < 115792089237316195423570985008687907853269984665640564039457584007913129639936) :
    (x + 115792089237316195423570985008687907853269984665640564039457584007913129639936 - y) % 115792089237316195423570985008687907853269984665640564039457584007913129639936 = S ∧ bor x y = o := by
  unfold bor
  have h2 : o = 0 ∨ o = 1 := by omega
  rcases h2 with rfl | rfl
  · have : ¬ x < y := by omega
    rw [if_neg this]
    exact ⟨by omega, rfl⟩
  · have : x < y := by omega
    rw [if_pos this]
    exact ⟨by omega, rfl⟩
theorem num_lt {a b c d : Nat} (ha : a < 18446744073709551616) (hb : b < 18446744073709551616) (hc : c < 18446744073709551616) (hd : d < 18446744073709551616) : a + 18446744073709551616 * b + 340282366920938463463374607431768211456 * c + 6277101735386680763835789423207666416102355444464034512896 * d < 115792089237316195423570985008687907853269984665640564039457584007913129639936 := by omega
theorem sub_words {x y a b c d a' b' c' d' s1 s2 s3 s4 o1 o2 o3 o4 : Nat} (hx : x = a + 18446744073709551616 * b + 340282366920938463463374607431768211456 * c + 6277101735386680763835789423207666416102355444464034512896 * d) (hy : y = a' + 18446744073709551616 * b' + 340282366920938463463374607431768211456 * c' + 6277101735386680763835789423207666416102355444464034512896 * d')
    (h1 : s1 + a' = a + 18446744073709551616 * o1) (h2 : s2 + b' + o1 = b + 18446744073709551616 * o2) (h3 : s3 + c' + o2 = c + 18446744073709551616 * o3) (h4 : s4 + d' + o3 = d + 18446744073709551616 * o4) :
    x + 115792089237316195423570985008687907853269984665640564039457584007913129639936 * o4 = (s1 + 18446744073709551616 * s2 + 340282366920938463463374607431768211456 * s3 + 6277101735386680763835789423207666416102355444464034512896 * s4) + y := by omega
theorem difference_s (x y : Nat) (w : World) (h : x < 115792089237316195423570985008687907853269984665640564039457584007913129639936) (h' : y < 115792089237316195423570985008687907853269984665640564039457584007913129639936) :
    Calls Tryz.prog 98 #[.agg (sA x), .agg (sA y)] w fun e w' => e = .returned (.tuple #[.agg (sA ((x + 115792089237316195423570985008687907853269984665640564039457584007913129639936 - y) % 115792089237316195423570985008687907853269984665640564039457584007913129639936)), .int .u64 (bor x y : Int)]) ∧ Below w.heap.size w w' := by
  obtain ⟨a, b, c, d, ha, hb, hc, hd, hx, ex⟩ := words x h
  obtain ⟨a', b', c', d', ha', hb', hc', hd', hy, ey⟩ := words y h'
  unfold sA
  rw [ex, ey]
  have h1 := Sub64_c a a' 0 (by omega)
  obtain ⟨s1, hs1⟩ : ∃ s, s = (a + 18446744073709551616 - a' - 0) % 18446744073709551616 := ⟨_, rfl⟩
  obtain ⟨o1, ho1⟩ : ∃ o, o = (if a < a' + 0 then 1 else 0) := ⟨_, rfl⟩
  rw [← hs1, ← ho1] at h1
  have lo1 : o1 ≤ 1 ∧ s1 + a' = a + 18446744073709551616 * o1 ∧ s1 < 18446744073709551616 := by rw [hs1, ho1]; split <;> omega
  have h2 := Sub64_c b b' o1 lo1.1
  obtain ⟨s2, hs2⟩ : ∃ s, s = (b + 18446744073709551616 - b' - o1) % 18446744073709551616 := ⟨_, rfl⟩
  obtain ⟨o2, ho2⟩ : ∃ o, o = (if b < b' + o1 then 1 else 0) := ⟨_, rfl⟩
  rw [← hs2, ← ho2] at h2
  have lo2 : o2 ≤ 1 ∧ s2 + b' + o1 = b + 18446744073709551616 * o2 ∧ s2 < 18446744073709551616 := by rw [hs2, ho2]; split <;> omega
  have h3 := Sub64_c c c' o2 lo2.1
  obtain ⟨s3, hs3⟩ : ∃ s, s = (c + 18446744073709551616 - c' - o2) % 18446744073709551616 := ⟨_, rfl⟩
  obtain ⟨o3, ho3⟩ : ∃ o, o = (if c < c' + o2 then 1 else 0) := ⟨_, rfl⟩
  rw [← hs3, ← ho3] at h3
  have lo3 : o3 ≤ 1 ∧ s3 + c' + o2 = c + 18446744073709551616 * o3 ∧ s3 < 18446744073709551616 := by rw [hs3, ho3]; split <;> omega
  have h4 := Sub64_c d d' o3 lo3.1
  obtain ⟨s4, hs4⟩ : ∃ s, s = (d + 18446744073709551616 - d' - o3) % 18446744073709551616 := ⟨_, rfl⟩
  obtain ⟨o4, ho4⟩ : ∃ o, o = (if d < d' + o3 then 1 else 0) := ⟨_, rfl⟩
  rw [← hs4, ← ho4] at h4
  have lo4 : o4 ≤ 1 ∧ s4 + d' + o3 = d + 18446744073709551616 * o4 ∧ s4 < 18446744073709551616 := by rw [hs4, ho4]; split <;> omega
  have h1' : ∀ W : World, (callFunc 124 #[.int .u64 (a : Int), .int .u64 (a' : Int), .int .u64 0]).run Tryz.prog W = .ok (.value (.tuple #[.int .u64 (s1 : Int), .int .u64 (o1 : Int)])) W := h1
  clear h1 hs1 ho1 hs2 ho2 hs3 ho3 hs4 ho4
  obtain ⟨hm, ho⟩ := sub_num (sub_words hx hy lo1.2.1 lo2.2.1 lo3.2.1 lo4.2.1) lo4.1 h h' (num_lt lo1.2.2 lo2.2.2 lo3.2.2 lo4.2.2)
  have he : eA ((x + 115792089237316195423570985008687907853269984665640564039457584007913129639936 - y) % 115792089237316195423570985008687907853269984665640564039457584007913129639936) = e4 s1 s2 s3 s4 := by rw [hm]; exact eA_of _ _ _ _ lo1.2.2 lo2.2.2 lo3.2.2 lo4.2.2
  have HE := hid he
  have HO := hid ho
  clear h h' hx hy ex ey lo1 lo2 lo3 lo4 hm he ho ha hb hc hd ha' hb' hc' hd'
  go_enter Tryz.func98, Tryz.ntmps98
  go_wp2
  refine bodyPost_ret (v := .tuple #[.agg (e4 s1 s2 s3 s4), .int .u64 (o4 : Int)]) (results_ct rfl _ _ ⟨w.heap.size + 1 + 1, 0, none⟩ _ _ rfl rfl (run_loadVar_row _ _ ST ST _ (0, 0) _ (blkN (by simp) _ _) Tryz.underlying62 rfl infoS)) rfl ⟨by rw [HE.out, HO.out], ?_⟩
  exact (((Below.refl _ _).alloc (Nat.le_refl _) _).alloc (by simp) _).alloc (by simp; omega) _
/-- A mask: all bits, or none. -/
def maskN (b : Bool) : Nat := if b then 18446744073709551615 else 0
theorem and_mask (a : Nat) (b : Bool) (h : a < 18446744073709551616) : bits .and .u64 (a : Int) (maskN b : Int) = ((if b then a else 0 : Nat) : Int) := by
  cases b
  · exact and_nought a h
  · exact and_ones a h
theorem only_s (x : Nat) (b : Bool) (w : World) (h : x < 115792089237316195423570985008687907853269984665640564039457584007913129639936) :
    Calls Tryz.prog 100 #[.agg (sA x), .int .u64 (maskN b : Int)] w (ScR w (if b then x else 0)) := by
  obtain ⟨a', b', c', d', ha', hb', hc', hd', hx, ex⟩ := words x h
  have he : eA (if b then x else 0) = e4 (if b then a' else 0) (if b then b' else 0) (if b then c' else 0) (if b then d' else 0) := by
    cases b
    · exact eA_small 0 (by omega)
    · exact ex
  have a1 := and_mask a' b ha'
  have a2 := and_mask b' b hb'
  have a3 := and_mask c' b hc'
  have a4 := and_mask d' b hd'
  unfold ScR sA
  rw [ex, he]
  generalize (if b then a' else 0) = r1 at *
  generalize (if b then b' else 0) = r2 at *
  generalize (if b then c' else 0) = r3 at *
  generalize (if b then d' else 0) = r4 at *
  generalize maskN b = k at *
  clear h hx ex he ha' hb' hc' hd'
  go_enter Tryz.func100, Tryz.ntmps100
  go_wp2
  refine bodyPost_ret (v := .agg (e4 r1 r2 r3 r4)) (results_cell_row rfl _ _ (w.heap.size + 1) ST _ (0, 0) _ rfl (blkN (by simp) _ _) Tryz.underlying62 rfl infoS) rfl ⟨rfl, ?_⟩
  exact ((Below.refl _ _).alloc (Nat.le_refl _) _).alloc (by simp) _
theorem ordL_words : sA ordL = e4 6346243789798364141 1503914060200516822 0 1152921504606846976 := by
  unfold sA
  have := eA_of 6346243789798364141 1503914060200516822 0 1152921504606846976 (by omega) (by omega) (by omega) (by omega)
  rw [← this]
  congr 1
theorem order_s (w : World) : Calls Tryz.prog 99 #[] w (ScR w ordL) := by
  unfold ScR
  rw [ordL_words]
  go_enter Tryz.func99, Tryz.ntmps99
  go_wp2
  refine bodyPost_ret (v := .agg (e4 6346243789798364141 1503914060200516822 0 1152921504606846976)) (results_cell_row rfl _ _ w.heap.size ST _ (0, 0) _ rfl (blkN rfl _ _) Tryz.underlying62 rfl infoS) rfl ⟨rfl, ?_⟩
  exact (Below.refl _ _).alloc (Nat.le_refl _) _
abbrev WT : TypeId := 102
theorem infoW : (Tryz.prog.info? WT).map (·.size) = some 4 := by kernel_rfl
theorem words_s (x : Nat) (w : World) (h : x < 115792089237316195423570985008687907853269984665640564039457584007913129639936) :
    Calls Tryz.prog 74 #[.agg (sA x)] w (ScR w x) := by
  obtain ⟨a, b, c, d, ha, hb, hc, hd, hx, ex⟩ := words x h
  unfold ScR sA
  rw [ex]
  clear h hx ex ha hb hc hd
  go_enter Tryz.func74, Tryz.ntmps74
  go_wp2
  refine bodyPost_ret (v := .agg (e4 a b c d)) (results_cell_row rfl _ _ (w.heap.size + 1) WT _ (0, 0) _ rfl (blkN (by simp) _ _) Tryz.underlying102 rfl infoW) rfl ⟨rfl, ?_⟩
  exact ((Below.refl _ _).alloc (Nat.le_refl _) _).alloc (by simp) _
end Go.Proofs.YtgehfbcagaaggaaGreatDoor
end
