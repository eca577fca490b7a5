/-
  Package field: the number of bytes.
  Package field: a number's bytes; the bytes of a power.
-/
import Derived.Test.YtealegfmmeklcaaFld5
import Derived.Test.YtealegfmmeklcaaShaS
import Derived.Test.YtealegfmmeklcaaLeN
namespace Go.Proofs.Ytealegfmmeklcaa
section
open Go.RowKit
set_option linter.unusedVariables false
set_option linter.unusedSimpArgs false

/-- What Of tells. -/
def ofN (xs : List UInt8) : Nat := leN (xs.take 32) % 57896044618658097711785492504343953926634992332820282019728792003956564819968 % pp
theorem ofN_lt (xs : List UInt8) : ofN xs < pp := Nat.mod_lt _ pp_pos

theorem belowF_drewN {B : Nat} {a w : World} (h : Below B a w) (n : Nat) : Below B a (w.drewN n) := ⟨h.os, h.tape, h.output, h.size, h.block⟩
theorem of_set (N t k : Nat) (hk : k < 4) (hN : N < 18446744073709551616 ^ (k + 1)) (ht : N / 18446744073709551616 ^ k + t < 18446744073709551616) :
    eA (N + 18446744073709551616 ^ k * t) = (eA N).setIfInBounds k (.int .u64 ((N / 18446744073709551616 ^ k + t : Nat) : Int)) ∧ (eA N)[k]? = some (.int .u64 ((N / 18446744073709551616 ^ k : Nat) : Int)) := by
  have hk4 : k = 0 ∨ k = 1 ∨ k = 2 ∨ k = 3 := by omega
  unfold eA
  rcases hk4 with rfl | rfl | rfl | rfl
  · have h1 : (N + 1 * t) % 18446744073709551616 = N + t := by omega
    have h2 : (N + 1 * t) / 18446744073709551616 % 18446744073709551616 = N / 18446744073709551616 % 18446744073709551616 := by omega
    have h3 : (N + 1 * t) / 340282366920938463463374607431768211456 % 18446744073709551616 = N / 340282366920938463463374607431768211456 % 18446744073709551616 := by omega
    have h4 : (N + 1 * t) / 6277101735386680763835789423207666416102355444464034512896 % 18446744073709551616 = N / 6277101735386680763835789423207666416102355444464034512896 % 18446744073709551616 := by omega
    have h5 : N / 1 = N := by omega
    have h6 : N % 18446744073709551616 = N := by omega
    simp only [Nat.pow_zero, h1, h2, h3, h4, h5, h6]
    exact ⟨rfl, rfl⟩
  · have h1 : (N + 18446744073709551616 * t) % 18446744073709551616 = N % 18446744073709551616 := by omega
    have h2 : (N + 18446744073709551616 * t) / 18446744073709551616 % 18446744073709551616 = N / 18446744073709551616 + t := by omega
    have h3 : (N + 18446744073709551616 * t) / 340282366920938463463374607431768211456 % 18446744073709551616 = N / 340282366920938463463374607431768211456 % 18446744073709551616 := by omega
    have h4 : (N + 18446744073709551616 * t) / 6277101735386680763835789423207666416102355444464034512896 % 18446744073709551616 = N / 6277101735386680763835789423207666416102355444464034512896 % 18446744073709551616 := by omega
    have h6 : N / 18446744073709551616 % 18446744073709551616 = N / 18446744073709551616 := by omega
    simp only [Nat.pow_one, h1, h2, h3, h4, h6]
    exact ⟨rfl, rfl⟩
  · have e : (18446744073709551616 : Nat) ^ 2 = 340282366920938463463374607431768211456 := by decide
    rw [e] at ht ⊢
    have e3 : (18446744073709551616 : Nat) ^ (2 + 1) = 6277101735386680763835789423207666416102355444464034512896 := by decide
    rw [e3] at hN
    have h1 : (N + 340282366920938463463374607431768211456 * t) % 18446744073709551616 = N % 18446744073709551616 := by omega
    have h2 : (N + 340282366920938463463374607431768211456 * t) / 18446744073709551616 % 18446744073709551616 = N / 18446744073709551616 % 18446744073709551616 := by omega
    have h3 : (N + 340282366920938463463374607431768211456 * t) / 340282366920938463463374607431768211456 % 18446744073709551616 = N / 340282366920938463463374607431768211456 + t := by omega
    have h4 : (N + 340282366920938463463374607431768211456 * t) / 6277101735386680763835789423207666416102355444464034512896 % 18446744073709551616 = N / 6277101735386680763835789423207666416102355444464034512896 % 18446744073709551616 := by omega
    have h6 : N / 340282366920938463463374607431768211456 % 18446744073709551616 = N / 340282366920938463463374607431768211456 := by omega
    simp only [h1, h2, h3, h4, h6]
    exact ⟨rfl, rfl⟩
  · have e : (18446744073709551616 : Nat) ^ 3 = 6277101735386680763835789423207666416102355444464034512896 := by decide
    rw [e] at ht ⊢
    have e3 : (18446744073709551616 : Nat) ^ (3 + 1) = 115792089237316195423570985008687907853269984665640564039457584007913129639936 := by decide
    rw [e3] at hN
    have h1 : (N + 6277101735386680763835789423207666416102355444464034512896 * t) % 18446744073709551616 = N % 18446744073709551616 := by omega
    have h2 : (N + 6277101735386680763835789423207666416102355444464034512896 * t) / 18446744073709551616 % 18446744073709551616 = N / 18446744073709551616 % 18446744073709551616 := by omega
    have h3 : (N + 6277101735386680763835789423207666416102355444464034512896 * t) / 340282366920938463463374607431768211456 % 18446744073709551616 = N / 340282366920938463463374607431768211456 % 18446744073709551616 := by omega
    have h4 : (N + 6277101735386680763835789423207666416102355444464034512896 * t) / 6277101735386680763835789423207666416102355444464034512896 % 18446744073709551616 = N / 6277101735386680763835789423207666416102355444464034512896 + t := by omega
    have h6 : N / 6277101735386680763835789423207666416102355444464034512896 % 18446744073709551616 = N / 6277101735386680763835789423207666416102355444464034512896 := by omega
    simp only [h1, h2, h3, h4, h6]
    exact ⟨rfl, rfl⟩
theorem pow_parts (i : Nat) : 256 ^ i = 18446744073709551616 ^ (i / 8) * 2 ^ (8 * (i % 8)) := by
  rw [show (18446744073709551616 : Nat) = 2 ^ 64 by decide, show (256 : Nat) = 2 ^ 8 by decide, ← Nat.pow_mul, ← Nat.pow_mul, ← Nat.pow_add]
  congr 1
  omega
/-- One byte more: q the word, s the shift. -/
theorem of_step (N b i : Nat) (hi : i < 32) (hN : N < 256 ^ i) (hb : b < 256) :
    N / 18446744073709551616 ^ (i / 8) < 2 ^ (8 * (i % 8)) ∧ b * 2 ^ (8 * (i % 8)) < 18446744073709551616 ∧ N / 18446744073709551616 ^ (i / 8) + b * 2 ^ (8 * (i % 8)) < 18446744073709551616 ∧
    eA (N + 256 ^ i * b) = (eA N).setIfInBounds (i / 8) (.int .u64 ((N / 18446744073709551616 ^ (i / 8) + b * 2 ^ (8 * (i % 8)) : Nat) : Int)) ∧ (eA N)[i / 8]? = some (.int .u64 ((N / 18446744073709551616 ^ (i / 8) : Nat) : Int)) := by
  have hp := pow_parts i
  rw [hp] at hN ⊢
  have h7 : 2 ^ (8 * (i % 8)) ≤ 2 ^ 56 := Nat.pow_le_pow_right (by omega) (by omega)
  have hk : i / 8 < 4 := by omega
  have hB : 0 < 18446744073709551616 ^ (i / 8) := Nat.pow_pos (by omega)
  have hnext : 18446744073709551616 ^ (i / 8 + 1) = 18446744073709551616 ^ (i / 8) * 18446744073709551616 := Nat.pow_succ ..
  generalize hm : 2 ^ (8 * (i % 8)) = m at *
  generalize i / 8 = k at *
  have hd : N / 18446744073709551616 ^ k < m := Nat.div_lt_of_lt_mul hN
  have hbm : b * m + m ≤ 256 * m := by
    have h := Nat.mul_le_mul_right m (show b + 1 ≤ 256 by omega)
    rw [Nat.add_mul, Nat.one_mul] at h
    exact h
  have hlt : N < 18446744073709551616 ^ (k + 1) := by
    rw [hnext]
    exact Nat.lt_of_lt_of_le hN (Nat.mul_le_mul_left _ (by omega))
  have hs := of_set N (b * m) k hk hlt (by omega)
  rw [Nat.mul_assoc, Nat.mul_comm m b]
  exact ⟨hd, by omega, by omega, hs.1, hs.2⟩
/-- The lower bits joined with the higher ones. -/
theorem or_high (a b s : Nat) (ha : a < 2 ^ s) (hb : b * 2 ^ s < 18446744073709551616) (h1 : a < 18446744073709551616) : bits .or .u64 (a : Int) ((b * 2 ^ s : Nat) : Int) = ((a + b * 2 ^ s : Nat) : Int) := by
  rw [u64_or_nat a (b * 2 ^ s) h1 hb, Nat.or_comm]
  congr 1
  rw [Nat.mul_comm, Nat.add_comm]
  exact (Nat.two_pow_add_eq_or_of_lt ha b).symm

theorem top_cut {M a b c d : Nat} (hM : M = a + 18446744073709551616 * b + 340282366920938463463374607431768211456 * c + 6277101735386680763835789423207666416102355444464034512896 * d) (ha : a < 18446744073709551616) (hb : b < 18446744073709551616) (hc : c < 18446744073709551616) :
    M % 57896044618658097711785492504343953926634992332820282019728792003956564819968 = a + 18446744073709551616 * b + 340282366920938463463374607431768211456 * c + 6277101735386680763835789423207666416102355444464034512896 * (d % 9223372036854775808) := by
  have e : d = d % 9223372036854775808 + 9223372036854775808 * (d / 9223372036854775808) := by omega
  have hr : d % 9223372036854775808 < 9223372036854775808 := Nat.mod_lt _ (by omega)
  generalize d % 9223372036854775808 = r at *
  generalize d / 9223372036854775808 = s at *
  have ht : M = (a + 18446744073709551616 * b + 340282366920938463463374607431768211456 * c + 6277101735386680763835789423207666416102355444464034512896 * r) + 57896044618658097711785492504343953926634992332820282019728792003956564819968 * s := by omega
  have hl : a + 18446744073709551616 * b + 340282366920938463463374607431768211456 * c + 6277101735386680763835789423207666416102355444464034512896 * r < 57896044618658097711785492504343953926634992332820282019728792003956564819968 := by omega
  rw [ht, Nat.add_mul_mod_self_left, Nat.mod_eq_of_lt hl]
theorem take_cut (xs : List UInt8) : xs.take (min xs.length 32) = xs.take 32 := by
  rcases Nat.le_total xs.length 32 with h | h
  · rw [Nat.min_eq_left h, List.take_of_length_le (Nat.le_refl _), List.take_of_length_le h]
  · rw [Nat.min_eq_right h]
theorem top_two {a : Nat} (ha : a < 57896044618658097711785492504343953926634992332820282019728792003956564819968) : a < 2 * pp := by rw [pp_def]; omega

abbrev A4T : TypeId := 85
set_option maxHeartbeats 1000000 in
theorem Of_e (A : Option Addr) (xs : List UInt8) (c : Nat) (w : World) (hS : Sq w w.heap.size A c (bvs xs)) :
    Calls Try.prog 36 #[.slice A xs.length c] w fun e w' => e = .returned (.agg (eA (ofN xs))) ∧ Below w.heap.size w w' := by
  have hcap := hS.cap
  rw [bvs_length] at hcap
  obtain ⟨hc1, hc2⟩ := hcap
  have HS := hid hS
  obtain ⟨n, hn⟩ : ∃ n, n = min xs.length 32 := ⟨_, rfl⟩
  have hmin : (if (32 : Int) < (xs.length : Int) then (32 : Int) else (xs.length : Int)) = (n : Int) := by split <;> omega
  have hnc : (n : Int) ≤ (c : Int) := by omega
  have hn0 : (0 : Int) ≤ (n : Int) := by omega
  have hn32 : n ≤ 32 := by omega
  have hnx : n ≤ xs.length := by omega
  have HN := hid hn
  clear hS hn
  go_enter Try.func36, Try.ntmps36
  go_wp2
  have hrow : ((w.alloc (.cells z4 ET)).alloc (.cells z4 A4T)).heap[w.heap.size + 1]? = some (.cells (eA 0) A4T (0, 0)) := blkN (by simp) z4 A4T
  have hres : ((w.alloc (.cells z4 ET)).alloc (.cells z4 A4T)).heap[w.heap.size]? = some (.cells z4 ET (0, 0)) := blkA (blkN rfl z4 ET) _
  have hbel : Below w.heap.size w ((w.alloc (.cells z4 ET)).alloc (.cells z4 A4T)) := ((Below.refl _ _).alloc (Nat.le_refl _) _).alloc (by simp) _
  have HROW := hid hrow; have HRES := hid hres; have HB := hid hbel
  clear hrow hres hbel
  generalize (w.alloc (.cells z4 ET)).alloc (.cells z4 A4T) = w0 at *
  go_loopg [12] n (fun g i wr => ∃ k : Nat, k + g = n ∧ i = .int .i64 (k : Int) ∧ wr.heap[w.heap.size + 1]? = some (.cells (eA (leN (xs.take k))) A4T (0, 0)) ∧ wr.heap[w.heap.size]? = some (.cells z4 ET (0, 0)) ∧ Below w.heap.size w wr)
  case atStart => exact ⟨0, by omega, rfl, HROW.out, HRES.out, HB.out⟩
  case round =>
    clear HROW HRES HB
    obtain ⟨k, hk, rfl, hrow, hres, hb⟩ := hrel
    have HK := hid hk; have HB := hid hb; have HROW := hid hrow; have HRES := hid hres
    have hkn : k ≤ n := by omega
    clear hk hb hrow hres
    by_cases hlt : k < n
    · have hx : (k : Int) < (n : Int) := by omega
      have hk0 : (0 : Int) ≤ (k : Int) := by omega
      obtain ⟨b, o, rfl, hbb, hcell⟩ := ((HS.out.below HB.out).lie).byte (k := k) (by omega)
      have hkx : k < xs.length := by omega
      obtain ⟨y, hy⟩ : ∃ y, y = xs[k] := ⟨_, rfl⟩
      rw [← hy] at hcell
      have hyl := y.toNat_lt
      have hst := of_step (leN (xs.take k)) y.toNat k (by omega) (by have h := leN_lt (xs.take k); rwa [List.length_take, Nat.min_eq_left (by omega)] at h) hyl
      have hnx2 : leN (xs.take k) + 256 ^ k * y.toNat = leN (xs.take (k + 1)) := by
        rw [List.take_succ_eq_append_getElem hkx, leN_snoc, List.length_take, Nat.min_eq_left (by omega), hy]
      rw [hnx2] at hst
      obtain ⟨q, hq⟩ : ∃ q, q = k / 8 := ⟨_, rfl⟩
      obtain ⟨r, hr⟩ : ∃ r, r = k % 8 := ⟨_, rfl⟩
      rw [← hq, ← hr] at hst
      have hq1 : ((k : Int)).tdiv 8 = (q : Int) := by rw [Int.tdiv_eq_ediv_of_nonneg hk0]; omega
      have hq2 : (k : Int) / 8 = (q : Int) := by omega
      have hr1 : ((k : Int)).tmod 8 = (r : Int) := by rw [Int.tmod_eq_emod_of_nonneg hk0]; omega
      have hr2 : (k : Int) % 8 = (r : Int) := by omega
      have hq4i : (q : Int) < 4 := by omega
      have hq0i : (0 : Int) ≤ (q : Int) := by omega
      have hr8 : (r : Int) < 8 := by omega
      have hr0i : (0 : Int) ≤ (r : Int) := by omega
      have hqw : IntKind.i64.wrap (q : Int) = (q : Int) := IntWalk.i64_in _ (by omega)
      have hrw : IntKind.i64.wrap (r : Int) = (r : Int) := IntWalk.i64_in _ (by omega)
      obtain ⟨s, hs⟩ : ∃ s, s = 8 * r := ⟨_, rfl⟩
      rw [← hs] at hst
      have hsw : IntKind.i64.wrap ((r : Int) * 8) = (s : Int) := (IntWalk.i64_in _ (by omega)).trans (by omega)
      have hs0 : (0 : Int) ≤ (s : Int) := by omega
      have hs64 : (s : Int) < 64 := by omega
      have hyw : IntKind.u64.wrap (y.toNat : Int) = (y.toNat : Int) := by rw [IntKind.wrap_u64]; omega
      obtain ⟨W0, hW0⟩ : ∃ W0, W0 = leN (xs.take k) / 18446744073709551616 ^ q := ⟨_, rfl⟩
      rw [← hW0] at hst
      have hct : wr.cell? ⟨w.heap.size + 1, q, none⟩ = some (.int .u64 (W0 : Int)) := cell_of HROW.out q _ hst.2.2.2.2
      have hft : wr.frozen? ⟨w.heap.size + 1, q, none⟩ = false := frozen_of_row _ _ _ _ _ HROW.out
      obtain ⟨v, hv⟩ : ∃ v, v = y.toNat * 2 ^ s := ⟨_, rfl⟩
      have hor := or_high W0 y.toNat s hst.1 hst.2.1 (by have := hst.2.2.1; omega)
      rw [← hv] at hst hor
      have hshl : IntKind.u64.wrap ((y.toNat : Int) * 2 ^ s) = (v : Int) := by
        rw [show ((y.toNat : Int) * 2 ^ s) = (v : Int) by rw [hv]; simp]
        have := hst.2.1
        rw [IntKind.wrap_u64]; omega
      have HSS := hid hs; have HV := hid hv
      clear hs hv
      have HST := hid hst; have HY := hid hy; have HQ := hid hq; have HR := hid hr
      clear hst hy hq hr hnx2 hyl hW0 hmin
      go_wp2
      refine wp_region_quiet_tail 12 (by kernel_rfl) (by kernel_rfl) ?_
      simp only [List.take_succ_cons, List.take_zero, List.drop_succ_cons, List.drop_zero]
      repeat (quiet_step (fail))
      refine wpQuiet_nil ?_
      intro _ hw'
      obtain ⟨nq, hw''⟩ := hw'
      subst hw''
      go_wp2
      have hk := HK.out
      have hrow2 := (block_set HROW.out q (.int .u64 ((W0 + v : Nat) : Int))).trans (by rw [← HST.out.2.2.2.1])
      go_roundg (n - k - 1)
      case measure => omega
      case rel =>
        refine ⟨k + 1, by omega, by go_num, hrow2, ?_, ?_⟩
        · exact (heap_setCell_other _ _ _ _ (by simp)).trans HRES.out
        · exact (belowF_drewN HB.out nq).setCell (by simp) _
    · obtain rfl : k = n := by omega
      have hx : ¬ (k : Int) < (k : Int) := by omega
      have hM : leN (xs.take k) < 115792089237316195423570985008687907853269984665640564039457584007913129639936 := by
        have h := leN_lt (xs.take k)
        have h2 : 256 ^ (xs.take k).length ≤ 256 ^ 32 := Nat.pow_le_pow_right (by omega) (by rw [List.length_take]; omega)
        exact Nat.lt_of_lt_of_le h h2
      have hof : ofN xs = leN (xs.take k) % 57896044618658097711785492504343953926634992332820282019728792003956564819968 % pp := by
        rw [HN.out, take_cut]; rfl
      obtain ⟨p0, p1, p2, p3, b0, b1, b2, b3, hMv, eM⟩ := words _ hM
      have hcut := top_cut hMv b0 b1 b2
      obtain ⟨r3, hr3⟩ : ∃ r, r = p3 % 9223372036854775808 := ⟨_, rfl⟩
      have hr3l : r3 < 9223372036854775808 := by rw [hr3]; exact Nat.mod_lt _ (by omega)
      have hb := fun W => below_e (leN (xs.take k) % 57896044618658097711785492504343953926634992332820282019728792003956564819968) W (top_two (Nat.mod_lt _ (by omega)))
      rw [← hof, hcut, ← hr3, eA_of _ _ _ _ b0 b1 b2 (by omega)] at hb
      have C := hid hb
      have hand : bits .and .u64 (p3 : Int) 9223372036854775807 = (r3 : Int) := by rw [and_top p3 b3, hr3]
      have hrow := HROW.out
      rw [eM] at hrow
      have c0 : wr.cell? ⟨w.heap.size + 1, 0, none⟩ = some (.int .u64 (p0 : Int)) := cell_of hrow 0 _ rfl
      have c1 : wr.cell? ⟨w.heap.size + 1, 1, none⟩ = some (.int .u64 (p1 : Int)) := cell_of hrow 1 _ rfl
      have c2 : wr.cell? ⟨w.heap.size + 1, 2, none⟩ = some (.int .u64 (p2 : Int)) := cell_of hrow 2 _ rfl
      have c3 : wr.cell? ⟨w.heap.size + 1, 3, none⟩ = some (.int .u64 (p3 : Int)) := cell_of hrow 3 _ rfl
      clear hM hof b0 b1 b2 b3 hMv eM hcut hr3 hr3l hb hrow hmin
      go_wp2_with fail
      refine (C.out _).mono ?_
      rintro e w1 ⟨rfl, hb⟩
      have hl : w.heap.size < wr.heap.size := block_lt HRES.out
      have Z := hid (block_below hb hl HRES.out)
      have HB2 := hid (HB.out.trans (hb.mono (by omega)))
      clear hb c0 c1 c2 c3
      go_wp2_with (with_reducible refine wpList_store_row rfl ET (.tmp 2) _ rfl (w.heap.size) (eA (ofN xs)) rfl rfl ET z4 Z.out (infoEA _) (sizeZA _) (oneEA _) ?_)
      refine bodyPost_ret (v := .agg (eA (ofN xs))) (results_cell_row rfl _ _ (w.heap.size) ET _ (0, 0) _ rfl (setRow_heap _ _ _ _ _ _ Z.out) Try.underlying26 rfl (infoEA _)) rfl ⟨rfl, ?_⟩
      exact belowRow HB2.out (by omega) _
end

section
open Go.RowKit
set_option linter.unusedVariables false
set_option linter.unusedSimpArgs false

theorem index_runE (cs : Array Value) (k : Nat) (v : Value) (hk : k < 4) (hv : cs[k]? = some v) (W : World) : (Instr.index 85 (.agg cs) (.int .i64 (k : Int))).run Try.prog W = .ok v W := by
  have hu := run_underlying (P := Try.prog) Try.underlying85 W
  have hu2 := run_underlying (P := Try.prog) Try.underlying24 W
  have h8 : (k : Int) < 4 := by omega
  have hI : (Try.prog.info? 24).map (·.size) = some 1 := by kernel_rfl
  cases hq : Try.prog.info? 24 with
  | none => simp [hq] at hI
  | some i =>
    have hs : i.size = 1 := by simpa [hq] using hI
    simp [Instr.index, asIntOf, hu, part, isAgg, hu2, sizeOf, typeInfo, hq, hs, h8, hv]
    intro h; omega

set_option maxHeartbeats 1000000 in
theorem Bytes_e (x : Nat) (w : World) (hx : x < 115792089237316195423570985008687907853269984665640564039457584007913129639936) :
    Calls Try.prog 53 #[.agg (eA x)] w fun e w' => ∃ v, e = .returned v ∧ OwnB w' w.heap.size v (leB 32 x) ∧ Below w.heap.size w w' := by
  obtain ⟨i0, hi, hz0, hz1, hz2⟩ := info_parts infoU8
  obtain ⟨p0, p1, p2, p3, b0, b1, b2, b3, hxv, ex⟩ := words x hx
  have HIX := hid (fun (k : Nat) (hk : k < 4) (W : World) => index_runE (eA x) k _ hk (eA_get x k hk) W)
  rw [ex] at HIX ⊢
  clear hx hxv ex b0 b1 b2 b3
  go_enter Try.func53, Try.ntmps53
  go_wp2_with (at_make; refine wpList_make_own _ rfl _ _ 22 rfl w.heap.size 5 i0 (.int .u8 0) 1 Try.underlying22 hi hz0 hz1 _ _ _ 32 rfl rfl ?c1 ?c2 ?c3 ?c4 ?_)
  case c1 => omega
  case c2 => rw [hz2]; omega
  case c3 => unfold maxLen; omega
  case c4 => simp
  intro w1 hown hg
  have h0 : w1.heap[w.heap.size]? = some (.cells (e4 p0 p1 p2 p3) ET (0, 0)) := block_grown (blkN rfl (e4 p0 p1 p2 p3) ET) hg (by simp)
  have hb1 : Below w.heap.size w w1 := ((Below.refl _ _).alloc (Nat.le_refl _) _).grown hg (by simp) (fun _ h => by cases h)
  have c0 : w1.cell? ⟨w.heap.size, 0, none⟩ = some (.int .u64 (p0 : Int)) := cell_of h0 0 _ rfl
  have c1 : w1.cell? ⟨w.heap.size, 1, none⟩ = some (.int .u64 (p1 : Int)) := cell_of h0 1 _ rfl
  have c2 : w1.cell? ⟨w.heap.size, 2, none⟩ = some (.int .u64 (p2 : Int)) := cell_of h0 2 _ rfl
  have c3 : w1.cell? ⟨w.heap.size, 3, none⟩ = some (.int .u64 (p3 : Int)) := cell_of h0 3 _ rfl
  have HO := hid hown; have HB := hid hb1
  clear hown hg h0 hb1 hi hz0 hz1 hz2
  go_wp2
  clear c0 c1 c2 c3
  go_loopg [3, 17] 4 (fun g v i wr => ∃ k : Nat, k + g = 4 ∧ i = .int .i64 (k : Int) ∧ OwnB wr w.heap.size v (leB (8 * k) x) ∧ Below w.heap.size w wr)
  case atStart => exact ⟨0, by omega, rfl, HO.out, HB.out⟩
  case round =>
    clear HO HB
    obtain ⟨k, hk, rfl, ho, hb⟩ := hrel
    have HK := hid hk; have HO := hid ho; have HB := hid hb
    have hk4 : k ≤ 4 := by omega
    clear hk ho hb
    by_cases hlt : k < 4
    · have hx : (k : Int) < 4 := by omega
      have hix := HIX.out k hlt
      obtain ⟨q, hq⟩ : ∃ q, q = x / 18446744073709551616 ^ k % 18446744073709551616 := ⟨_, rfl⟩
      rw [← hq] at hix
      have HQ := hid hq
      clear hq
      go_wp2
      clear hix
      go_loopg [3, 6] 8 (fun g v i wr => ∃ j : Nat, j + g = 8 ∧ i = .int .i64 ((8 * j : Nat) : Int) ∧ OwnB wr w.heap.size v (leB (8 * k + j) x) ∧ Below w.heap.size w wr)
      case atStart => exact ⟨0, by omega, rfl, HO.out, HB.out⟩
      case round =>
        clear HO HB
        obtain ⟨j, hj, rfl, ho, hb⟩ := hrel
        have HJ := hid hj; have HB := hid hb
        have hj8 : j ≤ 8 := by omega
        clear hj hb
        by_cases hlt2 : j < 8
        · have hxj : ((8 * j : Nat) : Int) < 64 := by omega
          have hj0 : (0 : Int) ≤ ((8 * j : Nat) : Int) := by omega
          have hsz := HB.out.size
          obtain ⟨s, hs⟩ : ∃ s, s = 8 * j := ⟨_, rfl⟩
          rw [← hs] at hxj hj0 ⊢
          have HS := hid hs
          clear hs
          go_wp2_with (at_builtin; refine wpList_append_lie rfl (.tmp 24) (.tmp 29) 22 rfl w.heap.size 5 (.int .u8 0) 1 Try.underlying22 infoU8 rfl rfl (World.ownsRow.alloc ho _) rfl rfl (Lie.new1 _ _ _) ?d0 ?d1 ?d2 ?d3 ?_)
          case d0 => intro u hu; simp at hu; subst hu; rfl
          case d1 => rw [List.length_singleton]; unfold maxLen; simp; omega
          case d2 => rw [List.length_singleton]; simp; omega
          case d3 => simp; omega
          intro v2 w2 hown2 hg2 _
          have hO : OwnB w2 w.heap.size v2 (leB (8 * k + (j + 1)) x) := by
            rw [show 8 * k + (j + 1) = 8 * k + j + 1 by omega, leB_snoc]
            refine own_snoc hown2 (by simp) ?_
            rw [HS.out, shr_val, HQ.out, word_byte x k j hlt2]
          have hB2 : Below w.heap.size w w2 := (HB.out.alloc hsz _).grown hg2 (by simp; omega) (fun q h => own_lt (World.ownsRow.alloc ho (.cells #[.int .u8 ((q : Int) / 2 ^ s % 256)] 5)) q h)
          have HO2 := hid hO; have HB2 := hid hB2
          clear hown2 hg2 hO hB2 ho HB
          go_wp2
          have hj := HJ.out
          have hs := HS.out
          go_roundg (8 - j - 1)
          case measure => omega
          case rel => exact ⟨j + 1, by omega, by rw [hs]; go_num, HO2.out, HB2.out⟩
        · obtain rfl : j = 8 := by omega
          have HO2 := hid ho
          clear ho
          go_wp2
          have hk := HK.out
          go_roundg (4 - k - 1)
          case measure => omega
          case rel => exact ⟨k + 1, by omega, by go_num, HO2.out, HB.out⟩
    · obtain rfl : k = 4 := by omega
      go_wp2
      go_ret
      exact ⟨_, rfl, HO.out, HB.out⟩
end
end Go.Proofs.Ytealegfmmeklcaa
