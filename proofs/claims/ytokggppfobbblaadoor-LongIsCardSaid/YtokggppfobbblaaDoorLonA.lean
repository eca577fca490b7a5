/-
  Package long: wide numbers compared; roots.
-/
import Derived.Test.YtokggppfobbblaaDoorLon9
import Derived.Test.YtokggppfobbblaaDoorQuiT
import Derived.Test.YtokggppfobbblaaDoorSha4
namespace Go.Proofs.YtokggppfobbblaaDoor
open Go.RowKit
set_option linter.unusedVariables false
set_option linter.unusedSimpArgs false

theorem wdiv_next (x k : Nat) : x / 18446744073709551616 ^ k = 18446744073709551616 * (x / 18446744073709551616 ^ (k + 1)) + wd x k := by
  rw [Nat.pow_succ, ← Nat.div_div_eq_div_mul]; unfold wd; omega
theorem wless (x y k : Nat) (h : x / 18446744073709551616 ^ (k + 1) = y / 18446744073709551616 ^ (k + 1)) (hne : wd x k ≠ wd y k) : x ≤ y ↔ wd x k < wd y k := by
  have hx := wdiv_next x k
  have hy := wdiv_next y k
  constructor
  · intro hle
    have : x / 18446744073709551616 ^ k ≤ y / 18446744073709551616 ^ k := Nat.div_le_div_right hle
    omega
  · intro hlt
    have h1 : x / 18446744073709551616 ^ k < y / 18446744073709551616 ^ k := by omega
    rcases Nat.lt_or_ge y x with h2 | h2
    · have := Nat.div_le_div_right (c := 18446744073709551616 ^ k) (Nat.le_of_lt h2); omega
    · exact h2
theorem wsame (x y k : Nat) (h : x / 18446744073709551616 ^ (k + 1) = y / 18446744073709551616 ^ (k + 1)) (he : wd x k = wd y k) : x / 18446744073709551616 ^ k = y / 18446744073709551616 ^ k := by
  rw [wdiv_next x k, wdiv_next y k, h, he]

set_option maxRecDepth 100000 in
set_option maxHeartbeats 800000 in
theorem atMost_any (x y : Nat) (w : World) (hx : x < 18446744073709551616 ^ 4) (hy : y < 18446744073709551616 ^ 4) :
    Calls Tryd.prog 45 #[.agg (wA x), .agg (wA y)] w fun e w' => e = .returned (.bool (decide (x ≤ y))) ∧ Below w.heap.size w w' := by
  have hxy : x / 18446744073709551616 ^ 4 = y / 18446744073709551616 ^ 4 := by rw [Nat.div_eq_of_lt hx, Nat.div_eq_of_lt hy]
  have HXY := hid hxy
  have h0 := heap_alloc2_old w (.cells (wA x) A4W) (.cells (wA y) A4W)
  have h1 := heap_alloc2_new w (.cells (wA x) A4W) (.cells (wA y) A4W)
  have hb : Below w.heap.size w ((w.alloc (.cells (wA x) A4W)).alloc (.cells (wA y) A4W)) := ((Below.refl _ _).alloc (Nat.le_refl _) _).alloc (by simp) _
  have H0 := hid h0; have H1 := hid h1; have HB := hid hb
  clear hx hy hxy h0 h1 hb
  go_enter Tryd.func45, Tryd.ntmps45
  go_wp2
  generalize (w.alloc (.cells (wA x) A4W)).alloc (.cells (wA y) A4W) = w0 at *
  go_loopg [5] 4 (fun g c wr => ∃ k : Nat, k = g ∧ k ≤ 4 ∧ c = .int .i64 ((k : Int) - 1) ∧ x / 18446744073709551616 ^ k = y / 18446744073709551616 ^ k ∧ ∃ n, wr = w0.drewN n)
  case atStart => exact ⟨4, rfl, by omega, rfl, HXY.out, 0, rfl⟩
  case round =>
    clear HXY
    obtain ⟨k, hk, hk4, rfl, hd, hw⟩ := hrel
    have h0 : wr.heap[w.heap.size]? = some (.cells (wA x) A4W (0, 0)) := by obtain ⟨n, rfl⟩ := hw; exact H0.out
    have h1 : wr.heap[w.heap.size + 1]? = some (.cells (wA y) A4W (0, 0)) := by obtain ⟨n, rfl⟩ := hw; exact H1.out
    have hb : ∀ n, Below w.heap.size w (wr.drewN n) := by obtain ⟨n, rfl⟩ := hw; exact fun m => below_drewN (below_drewN HB.out n) m
    have HD := hid hd; have HW := hid hw; have HBR := hid hb; have HK := hid hk
    clear hd hw hb hk
    rcases k with _ | k
    · have hx : x = y := by have := HD.out; simpa using this
      have HF : Hid (decide (x ≤ y) = true) := hid (by rw [hx]; simp)
      clear hx h0 h1
      go_wp2
      go_ret
      exact ⟨by rw [HF.out]; rfl, HBR.out 0⟩
    · have e1 : (((k + 1 : Nat) : Int) - 1) = (k : Int) := by omega
      rw [e1]
      have hk0 : (0 : Int) ≤ (k : Int) := by omega
      have hk3 : (k : Int) < 4 := by omega
      have hcx : wr.cell? ⟨w.heap.size, k, none⟩ = some (.int .u64 ((wd x k : Nat) : Int)) := cell_of h0 k _ (wF_get _ k (by omega))
      have hcy : wr.cell? ⟨w.heap.size + 1, k, none⟩ = some (.int .u64 ((wd y k : Nat) : Int)) := cell_of h1 k _ (wF_get _ k (by omega))
      clear h0 h1 e1
      obtain ⟨a, ha⟩ : ∃ a, a = wd x k := ⟨_, rfl⟩
      obtain ⟨b, hbb⟩ : ∃ b, b = wd y k := ⟨_, rfl⟩
      rw [← ha] at hcx
      rw [← hbb] at hcy
      by_cases he : a = b
      · have hsd := wsame x y k HD.out (by rw [← ha, ← hbb]; exact he)
        have hne : ((a : Int) != (b : Int)) = false := by simp [he]
        have HSD := hid hsd
        clear ha hbb he hsd
        go_wp2
        go_quiet (fail)
        go_wp2
        have hk := HK.out
        go_roundg (gk - 1)
        case measure => omega
        case rel => exact ⟨k, by omega, by omega, rfl, HSD.out, by obtain ⟨n, hn⟩ := HW.out; exact ⟨_, by rw [hn, World.drewN_drewN]⟩⟩
      · have hlt := wless x y k HD.out (by rw [← ha, ← hbb]; exact he)
        rw [← ha, ← hbb] at hlt
        have hne : ((a : Int) != (b : Int)) = true := by rw [bne_iff_ne]; omega
        by_cases hab : a < b
        · have HF : Hid (decide (x ≤ y) = true) := hid (decide_eq_true (hlt.2 hab))
          have habi : (a : Int) < (b : Int) := by omega
          have habd : decide (a < b) = true := decide_eq_true hab
          have HABD := hid habd
          clear hlt ha hbb he hab habd
          go_wp2
          go_quiet (fail)
          go_wp2
          go_quiet (fail)
          go_wp2
          try rw [HABD.out]
          go_ret
          exact ⟨by rw [HF.out]; rfl, below_drewN (HBR.out _) _⟩
        · have HF : Hid (decide (x ≤ y) = false) := hid (decide_eq_false (fun h => hab (hlt.1 h)))
          have habi : ¬ (a : Int) < (b : Int) := by omega
          have habd : decide (a < b) = false := decide_eq_false hab
          have HABD := hid habd
          clear hlt ha hbb he hab habd
          go_wp2
          go_quiet (fail)
          go_wp2
          go_quiet (fail)
          go_wp2
          try rw [HABD.out]
          go_ret
          exact ⟨by rw [HF.out]; rfl, below_drewN (HBR.out _) _⟩

theorem goal_set (n k : Nat) (hn : n < 18446744073709551616) (hk : k = 2 ∨ k = 3) : (wA 0).setIfInBounds k (.int .u64 (n : Int)) = wA (n * 18446744073709551616 ^ k) := by
  have e : ∀ q, q < 4 → (if q = k then n else wd 0 q) = wd (n * 18446744073709551616 ^ k) q := by
    intro q hq
    have : q = 0 ∨ q = 1 ∨ q = 2 ∨ q = 3 := by omega
    rcases hk with rfl | rfl <;> rcases this with rfl | rfl | rfl | rfl <;> simp [wd] <;> omega
  rw [wA, wF_set _ _ _ (by omega), wA, wF_congr e]
/-- A scope with one label that is jumped to, whatever stands ahead of it. -/
theorem wp_scope_at {P : Program} {a : Act} {w : World} {Q : Exit → Act → World → Prop} {body r : Code} (l : Nat) (J : Act → World → Prop) (μ : Act → World → Nat) (hf : findLabel body l = some (Code.skip.seq r))
    (h0 : ∀ Qj : Exit → Act → World → Prop, (∀ a' w' , Q .ret a' w' → Qj .ret a' w') → (∀ a w, J a w → r.wp P Qj a w) → body.wp P Qj a w)
    (pass : ∀ a w, J a w → r.wp P (Exit.jump l (fun a' w' => J a' w' ∧ μ a' w' < μ a w) Q) a w) : (Code.scope body).wp P Q a w :=
  wp_scope_jumps l J μ hf (h0 _ (fun _ _ h => h) (fun a w h => Code.wp_mono (fun e a' w' h => by
    cases e with
    | goto l' => exact ⟨h.1, h.2.1⟩
    | normal => exact h
    | exit id => exact h
    | ret => exact h
    | panic ch => exact h
    | outgrown => exact h) (pass a w h))) (fun a w h => wp_seq (wp_skip (pass a w h)))
/-- What holds at the label, the bits from i on still to come. -/
def RootAt (w : World) (n k x i : Nat) (w' : World) : Prop :=
  i ≤ 74 ∧ w'.heap[w.heap.size]? = some (.cells (wA (n * 18446744073709551616 ^ k)) A4W (0, 0)) ∧ w'.heap[w.heap.size + 1]? = some (.cells (wA x) A4W (0, 0)) ∧ x % 2 ^ (i + 1) = 0 ∧ x < 2 ^ 75 ∧
  rbits (n * 18446744073709551616 ^ k) k x (i + 1) = rbits (n * 18446744073709551616 ^ k) k 0 75 ∧ Below w.heap.size w w'

theorem tried_bit (x i q r : Nat) (hq : q = i / 64) (hr : r = i % 64) (hi : i ≤ 74) (hx : x % 2 ^ (i + 1) = 0) : bits .or .u64 ((wd x q : Nat) : Int) ((2 ^ r : Nat) : Int) = ((wd x q + 2 ^ r : Nat) : Int) := by
  have hr64 : r < 64 := by omega
  have h2 : 2 ^ r < 18446744073709551616 := Nat.pow_lt_pow_right (a := 2) (by omega) hr64
  refine or_join (r + 1) _ _ ?_ (Nat.pow_lt_pow_right (by omega) (by omega)) (wd_lt _ _) h2
  obtain ⟨c, hc⟩ := Nat.dvd_of_mod_eq_zero hx
  have e64 : (18446744073709551616 : Nat) = 2 ^ 64 := by decide
  have hi2 : i + 1 = 64 * q + (r + 1) := by omega
  unfold wd
  rw [hc, hi2, Nat.pow_add, Nat.mul_assoc, e64, ← Nat.pow_mul, Nat.mul_div_cancel_left _ (Nat.two_pow_pos _)]
  rw [show (2 : Nat) ^ 64 = 2 ^ (r + 1) * 2 ^ (63 - r) by rw [← Nat.pow_add]; congr 1; omega, Nat.mod_mul_right_mod, Nat.mul_mod_right]
theorem tried_set (x i q r : Nat) (hq : q = i / 64) (hr : r = i % 64) (hi : i ≤ 74) (hx : x % 2 ^ (i + 1) = 0) (hx75 : x < 2 ^ 75) : (wA x).setIfInBounds q (.int .u64 ((wd x q + 2 ^ r : Nat) : Int)) = wA (x + 2 ^ i) := by
  obtain ⟨c, hc⟩ := Nat.dvd_of_mod_eq_zero hx
  have hr64 : r < 64 := by omega
  have hi2 : i = 64 * q + r := by omega
  have e0 : ∀ t, (18446744073709551616 : Nat) ^ t = 2 ^ (64 * t) := fun t => by rw [show (18446744073709551616 : Nat) = 2 ^ 64 by decide, Nat.pow_mul]
  have hdq : (x + 2 ^ i) / 18446744073709551616 ^ q = x / 18446744073709551616 ^ q + 2 ^ r := by
    rw [show 2 ^ i = 18446744073709551616 ^ q * 2 ^ r by rw [e0, ← Nat.pow_add, hi2], Nat.add_mul_div_left _ _ (by rw [e0]; exact Nat.two_pow_pos _)]
  have hm : x / 18446744073709551616 ^ q % 2 ^ (r + 1) = 0 := by
    rw [hc, e0, show i + 1 = 64 * q + (r + 1) by omega, Nat.pow_add, Nat.mul_assoc, Nat.mul_div_cancel_left _ (Nat.two_pow_pos _), Nat.mul_mod_right]
  obtain ⟨z, hz⟩ : ∃ z, z = x / 18446744073709551616 ^ q := ⟨_, rfl⟩
  rw [← hz] at hdq hm
  have hlt : z % 18446744073709551616 + 2 ^ r < 18446744073709551616 := by
    obtain ⟨d, hd⟩ := Nat.dvd_of_mod_eq_zero hm
    have e64 : (18446744073709551616 : Nat) = 2 ^ (r + 1) * 2 ^ (63 - r) := by rw [← Nat.pow_add, show r + 1 + (63 - r) = 64 by omega]
    have hlt : 2 ^ r < 2 ^ (r + 1) := Nat.pow_lt_pow_right (by omega) (by omega)
    have hdm : d % 2 ^ (63 - r) < 2 ^ (63 - r) := Nat.mod_lt _ (Nat.two_pow_pos _)
    have h3 : 2 ^ (r + 1) * (d % 2 ^ (63 - r) + 1) ≤ 2 ^ (r + 1) * 2 ^ (63 - r) := Nat.mul_le_mul_left _ hdm
    rw [Nat.mul_add] at h3
    rw [hd, e64, Nat.mul_mod_mul_left]
    generalize 2 ^ (r + 1) * (d % 2 ^ (63 - r)) = y at *
    generalize 2 ^ (r + 1) * 2 ^ (63 - r) = Z at *
    omega
  have key : ∀ t, t < 4 → (if t = q then wd x q + 2 ^ r else wd x t) = wd (x + 2 ^ i) t := by
    intro t ht
    by_cases h1 : t = q
    · subst h1
      rw [if_pos rfl]
      unfold wd
      rw [hdq, ← hz, ← Nat.mod_add_mod, Nat.mod_eq_of_lt hlt]
    · rw [if_neg h1]
      by_cases h2 : t < q
      · have hd : x + 2 ^ i = x + 18446744073709551616 ^ (t + 1) * 2 ^ (i - 64 * (t + 1)) := by rw [e0, ← Nat.pow_add]; congr 2; omega
        rw [← wd_mod x t (t + 1) (by omega), ← wd_mod (x + 2 ^ i) t (t + 1) (by omega), hd, Nat.add_mul_mod_self_left]
      · have hde : (z + 2 ^ r) / 18446744073709551616 = z / 18446744073709551616 := by
          generalize 2 ^ r = y at *
          omega
        have h3 : ∀ y, y / 18446744073709551616 ^ t = y / 18446744073709551616 ^ q / 18446744073709551616 / 18446744073709551616 ^ (t - q - 1) := fun y => by
          rw [Nat.div_div_eq_div_mul, Nat.div_div_eq_div_mul, ← Nat.mul_assoc, ← Nat.pow_succ, ← Nat.pow_add]
          congr 2; omega
        unfold wd
        rw [h3 x, h3 (x + 2 ^ i), hdq, ← hz, hde]
  rw [wA, wF_set _ _ _ (by omega), wA, wF_congr key]
theorem root_fits (x i : Nat) (hi : i ≤ 74) (hx : x % 2 ^ (i + 1) = 0) (hx75 : x < 2 ^ 75) : x + 2 ^ i < 2 ^ 75 := by
  obtain ⟨c, hc⟩ := Nat.dvd_of_mod_eq_zero hx
  have e : (2 : Nat) ^ 75 = 2 ^ (i + 1) * 2 ^ (74 - i) := by rw [← Nat.pow_add]; congr 1; omega
  have hp := Nat.two_pow_pos i
  have hc2 : c < 2 ^ (74 - i) := by
    rw [hc, e] at hx75
    exact Nat.lt_of_mul_lt_mul_left hx75
  rw [e, hc]
  have h3 : 2 ^ (i + 1) * (c + 1) ≤ 2 ^ (i + 1) * 2 ^ (74 - i) := Nat.mul_le_mul_left _ hc2
  have h4 : 2 ^ (i + 1) = 2 ^ i + 2 ^ i := by rw [Nat.pow_succ]; omega
  rw [Nat.mul_add] at h3
  omega
theorem goal_fits (n k : Nat) (hn : n ≤ 1048576) (hk : k ≤ 3) : n * 18446744073709551616 ^ k < 18446744073709551616 ^ 4 := by
  have h1 : n * 18446744073709551616 ^ k ≤ 1048576 * 18446744073709551616 ^ 3 := Nat.mul_le_mul hn (Nat.pow_le_pow_right (by omega) hk)
  exact Nat.lt_of_le_of_lt h1 (by decide)
theorem root_mod (x i : Nat) (hx : x % 2 ^ (i + 1) = 0) : (x + 2 ^ i) % 2 ^ i = 0 := by
  rw [Nat.add_mod_right]
  obtain ⟨c, hc⟩ := Nat.dvd_of_mod_eq_zero hx
  rw [hc, Nat.pow_succ, Nat.mul_assoc, Nat.mul_mod_right]
theorem root_mod2 (x i : Nat) (hx : x % 2 ^ (i + 1) = 0) : x % 2 ^ i = 0 := by
  have := root_mod x i hx
  rwa [Nat.add_mod_right] at this
theorem pow_fits (y j : Nat) (hy : y < 2 ^ 75) (hj : j ≤ 3) : y ^ j < 18446744073709551616 ^ 4 := by
  have h1 : y ^ j ≤ (2 ^ 75) ^ j := Nat.pow_le_pow_left (Nat.le_of_lt hy) j
  have h2 : ((2 : Nat) ^ 75) ^ j ≤ (2 ^ 75) ^ 3 := Nat.pow_le_pow_right (Nat.two_pow_pos _) hj
  exact Nat.lt_of_le_of_lt (Nat.le_trans h1 h2) (by decide)

set_option maxRecDepth 100000 in
set_option maxHeartbeats 800000 in
theorem Root_good2 (n : Nat) (w : World) (hn : n ≤ 1048576) :
    Calls Tryd.prog 31 #[.int .u64 (n : Int), .int .i64 2] w fun e w' => e = .returned (.int .u64 ((rbits (n * 18446744073709551616 ^ 2) 2 0 75 % 18446744073709551616 : Nat) : Int)) ∧ Below w.heap.size w w' := by
  have hn1 : ¬ (1048576 : Int) < (n : Int) := by omega
  have hz0 : ∀ W : World, (zeroValue 65).run Tryd.prog W = .ok (.agg (wA 0)) W := fun W => by rw [wA_zero]; kernel_rfl
  have h1 := heap_alloc2_old w (.cells (wA 0) A4W) (.cells (wA 0) A4W)
  have hc2 : ((w.alloc (.cells (wA 0) A4W)).alloc (.cells (wA 0) A4W)).cell? ⟨w.heap.size, 2, none⟩ = some (.int .u64 0) := cell_of h1 2 _ rfl
  have hf2 : ((w.alloc (.cells (wA 0) A4W)).alloc (.cells (wA 0) A4W)).frozen? ⟨w.heap.size, 2, none⟩ = false := frozen_of_row _ _ _ _ _ h1
  have H1 := hid h1
  clear h1
  go_enter Tryd.func31, Tryd.ntmps31
  go_wp2
  refine wp_scope_at 0 (fun a' w' => ∃ (x i : Nat) (u8 u22 u23 u24 u25 u26 u27 u28 u29 u30 u31 u32 u33 u34 u35 u36 u37 u38 u39 u40 u41 : Value), a' = { tmps := #[.int .u64 (n : Int), .int .i64 2, undef, undef, .int .u64 0, .pointer (some ⟨w.heap.size, 0, none⟩), .pointer (some ⟨w.heap.size + 1, 0, none⟩), .int .i64 (i : Int), u8, .int .u64 (n : Int), .bool (decide ((1048576 : Int) < (n : Int))), .bool (decide ((1048576 : Int) < (n : Int))), .int .i64 2, .bool false, .bool false, undef, undef, .bool false, .bool (decide ((1048576 : Int) < (n : Int))), .int .i64 2, .int .u64 (n : Int), .pointer (some ⟨w.heap.size, 2, none⟩), u22, u23, u24, u25, u26, u27, u28, u29, u30, u31, u32, u33, u34, u35, u36, u37, u38, u39, u40, u41, undef, undef], defers := [] } ∧ RootAt w n 2 x i w') (fun a' _ => (intOf (a'.tmps.getD 7 undef)).toNat) rfl ?_ ?_
  · intro Qj hQr hJ
    go_wp2
    refine wp_label ?_
    rename_i K hK
    refine hK _ _ (hJ _ _ ⟨0, 74, _, _, _, _, _, _, _, _, _, _, _, _, _, _, _, _, _, _, _, _, _, rfl, ?_⟩)
    refine ⟨by omega, ?_, heap_alloc2_new w _ _, by simp, by decide, rfl, ((Below.refl _ _).alloc (Nat.le_refl _) _).alloc (by simp) _⟩
    rw [goal_set n 2 (by omega) (by simp)]
    exact heap_alloc2_old w _ _
  · rintro a' w' ⟨x, i, u8, u22, u23, u24, u25, u26, u27, u28, u29, u30, u31, u32, u33, u34, u35, u36, u37, u38, u39, u40, u41, rfl, hR⟩
    have HR := hid hR
    obtain ⟨hi, hg, hr, hx, hx75, hrb, hbel⟩ := hR
    have HG := hid hg; have HRT := hid hr; have HB := hid hbel
    have HI : ∀ n : Nat, (Tryd.prog.info? 65).map (·.size) = some (wA n).size := fun n => info4W.trans (congrArg some (wF_size _).symm)
    have hO : ∀ n : Nat, (wA n).all (·.oneCell') = true := fun n => wF_one _
    have HI2 := hid HI; have HO := hid hO
    have HZ : Hid ((wA 0).size = (wA x).size) := hid rfl
    clear hg hr hbel HI hO hc2 hf2 H1 hn1
    go_wp2_with (first
      | (with_reducible refine wpList_load_row rfl 65 (.tmp 6) rfl (w.heap.size + 1) rfl A4W (wA x) (0, 0) _ HRT.out undW rfl (HI2.out x) ?_)
      | (with_reducible refine wpList_store_row rfl 65 (.tmp 8) _ rfl w'.heap.size (wA x) rfl rfl A4W (wA 0) (heap_alloc_new _ _) (HI2.out x) HZ.out (HO.out x) ?_; rw [World.setRow_alloc_new]))
    obtain ⟨q, hq⟩ : ∃ q, q = i / 64 := ⟨_, rfl⟩
    obtain ⟨r, hr⟩ : ∃ r, r = i % 64 := ⟨_, rfl⟩
    have hi0 : (0 : Int) ≤ (i : Int) := by omega
    have hq1 : ((i : Int)).tdiv 64 = (q : Int) := by rw [Int.tdiv_eq_ediv_of_nonneg hi0]; omega
    have hq2 : (i : Int) / 64 = (q : Int) := by omega
    have hr1 : ((i : Int)).tmod 64 = (r : Int) := by rw [Int.tmod_eq_emod_of_nonneg hi0]; omega
    have hr2 : (i : Int) % 64 = (r : Int) := by omega
    have hq4 : q < 4 := by omega
    have hq4i : (q : Int) < 4 := by omega
    have hq0i : (0 : Int) ≤ (q : Int) := by omega
    have hr64 : (r : Int) < 64 := by omega
    have hr0i : (0 : Int) ≤ (r : Int) := by omega
    have hqw : IntKind.i64.wrap (q : Int) = (q : Int) := IntWalk.i64_in _ (by omega)
    have hrw : IntKind.i64.wrap (r : Int) = (r : Int) := IntWalk.i64_in _ (by omega)
    have hrow8 := heap_alloc_new w' (.cells (wA x) A4W)
    have hct : (w'.alloc (.cells (wA x) A4W)).cell? ⟨w'.heap.size, q, none⟩ = some (.int .u64 ((wd x q : Nat) : Int)) := cell_of hrow8 q _ (wF_get _ q hq4)
    have hft : (w'.alloc (.cells (wA x) A4W)).frozen? ⟨w'.heap.size, q, none⟩ = false := frozen_of_row _ _ _ _ _ hrow8
    have HROW8 := hid hrow8; have HQ := hid hq; have HRR := hid hr
    clear hq hr hrow8 hi0 hz0
    refine wp_region_quiet_tail 8 (by kernel_rfl) (by kernel_rfl) ?_
    simp only [List.take_succ_cons, List.take_zero, List.drop_succ_cons, List.drop_zero]
    repeat (quiet_step (fail))
    refine wpQuiet_nil ?_
    intro _ hw'
    obtain ⟨nq, hw''⟩ := hw'
    subst hw''
    go_wp2
    have h2r : IntKind.u64.wrap (2 ^ r) = ((2 ^ r : Nat) : Int) := by
      have h := Nat.pow_lt_pow_right (a := 2) (by omega) (show r < 64 by omega)
      have e : ((2 : Int) ^ r) = ((2 ^ r : Nat) : Int) := by simp
      rw [e, IntKind.wrap_u64]
      generalize 2 ^ r = z at *
      omega
    rw [h2r, tried_bit x i q r HQ.out HRR.out hi hx]
    have hW := block_set (w := (w'.alloc (.cells (wA x) A4W)).drewN nq) HROW8.out q (.int .u64 ((wd x q + 2 ^ r : Nat) : Int))
    rw [tried_set x i q r HQ.out HRR.out hi hx hx75] at hW
    have hGo : (((w'.alloc (.cells (wA x) A4W)).drewN nq).setCell ⟨w'.heap.size, q, none⟩ (.int .u64 ((wd x q + 2 ^ r : Nat) : Int))).heap[w.heap.size]? = some (.cells (wA (n * 18446744073709551616 ^ 2)) A4W (0, 0)) :=
      (heap_setCell_other ((w'.alloc (.cells (wA x) A4W)).drewN nq) _ _ _ (by have := block_lt HG.out; simp; omega)).trans ((Below.heap_alloc _ _ _ (block_lt HG.out)).trans HG.out)
    have hRo : (((w'.alloc (.cells (wA x) A4W)).drewN nq).setCell ⟨w'.heap.size, q, none⟩ (.int .u64 ((wd x q + 2 ^ r : Nat) : Int))).heap[w.heap.size + 1]? = some (.cells (wA x) A4W (0, 0)) :=
      (heap_setCell_other ((w'.alloc (.cells (wA x) A4W)).drewN nq) _ _ _ (by have := block_lt HRT.out; simp; omega)).trans ((Below.heap_alloc _ _ _ (block_lt HRT.out)).trans HRT.out)
    have hB9 : Below w.heap.size w (((w'.alloc (.cells (wA x) A4W)).drewN nq).setCell ⟨w'.heap.size, q, none⟩ (.int .u64 ((wd x q + 2 ^ r : Nat) : Int))) :=
      (below_drewN (HB.out.alloc HB.out.size _) nq).setCell HB.out.size _
    have HW := hid hW; have HGo := hid hGo; have HRo := hid hRo; have HB9 := hid hB9
    have hlw : w.heap.size + 1 < w'.heap.size := block_lt HRT.out
    clear hW hGo hRo hB9 h2r hct hft hq1 hq2 hr1 hr2 hqw hrw HROW8 HG HRT HB
    generalize w'.heap.size = T at *
    generalize ((w'.alloc (.cells (wA x) A4W)).drewN nq).setCell ⟨T, q, none⟩ (.int .u64 ((wd x q + 2 ^ r : Nat) : Int)) = w9 at *
    have hxi : (x + 2 ^ i) < 2 ^ 75 := root_fits x i hi hx hx75
    have hxB : x + 2 ^ i < 18446744073709551616 ^ 4 := Nat.lt_trans hxi (by decide)
    have hpw : ∀ j, j ≤ 3 → (x + 2 ^ i) ^ j < 18446744073709551616 ^ 4 := fun j hj => pow_fits _ j hxi hj
    have HPW := hid hpw
    have hTl : T < w9.heap.size := block_lt HW.out
    have hgl : w.heap.size < w9.heap.size := block_lt HGo.out
    have hCW : ∀ W', Below w9.heap.size w9 W' → W'.heap[T]? = some (.cells (wA (x + 2 ^ i)) A4W (0, 0)) := fun W' h => (h.block T hTl).trans HW.out
    have hCG : ∀ W', Below w9.heap.size w9 W' → W'.heap[w.heap.size]? = some (.cells (wA (n * 18446744073709551616 ^ 2)) A4W (0, 0)) := fun W' h => (h.block w.heap.size hgl).trans HGo.out
    have HCW := hid hCW; have HCG := hid hCG
    clear hCW hCG hpw hxB
    refine wp_region_grown (by kernel_rfl) (by kernel_rfl) ?_
    refine quiet_row rfl 65 (.tmp 8) rfl T rfl A4W (wA (x + 2 ^ i)) (0, 0) _ HCW.out undW rfl (HI2.out _) ?_
    refine quiet_val rfl (.int .i64 2) (fun _ _ => rfl) ?_
    have HPC : Hid (∀ w1, Below w9.heap.size w9 w1 → Calls Tryd.prog 46 #[.agg (wA (x + 2 ^ i)), .int .i64 2] w1 fun e w2 => e = .returned (.agg (wA ((x + 2 ^ i) ^ 2))) ∧ Below w9.heap.size w9 w2) := hid fun w1 hw1 =>
      (power_any (x + 2 ^ i) 2 w1 (by have := HPW.out 1 (by omega); rwa [Nat.pow_one] at this) (by omega) (by omega) (fun j hj hj2 => HPW.out j (by omega))).mono fun e w2 h => ⟨h.1, hw1.trans (h.2.mono hw1.size)⟩
    have HAC : Hid (∀ w1, Below w9.heap.size w9 w1 → Calls Tryd.prog 45 #[.agg (wA ((x + 2 ^ i) ^ 2)), .agg (wA (n * 18446744073709551616 ^ 2))] w1 fun e w2 => e = .returned (.bool (decide ((x + 2 ^ i) ^ 2 ≤ n * 18446744073709551616 ^ 2))) ∧ Below w9.heap.size w9 w2) := hid fun w1 hw1 =>
      (atMost_any _ _ w1 (HPW.out 2 (by omega)) (goal_fits n 2 hn (by omega))).mono fun e w2 h => ⟨h.1, hw1.trans (h.2.mono hw1.size)⟩
    refine wpQuiet_step (fun K hK => ?_)
    go_simp
    refine ⟨_, HPC.out, hK _ ?_⟩
    clear hK K
    refine quiet_row rfl 65 (.tmp 5) rfl w.heap.size rfl A4W (wA (n * 18446744073709551616 ^ 2)) (0, 0) _ HCG.out undW rfl (HI2.out _) ?_
    refine wpQuiet_step (fun K hK => ?_)
    go_simp
    refine ⟨_, HAC.out, hK _ ?_⟩
    clear hK K
    refine wpQuiet_nil ?_
    intro w10 hb10
    have hT10 := HCW.out w10 hb10
    have hG10 := HCG.out w10 hb10
    have hR10 : w10.heap[w.heap.size + 1]? = some (.cells (wA x) A4W (0, 0)) := (hb10.block _ (block_lt HRo.out)).trans HRo.out
    have hB10 : Below w.heap.size w w10 := HB9.out.trans (hb10.mono (by have := HB9.out.size; exact this))
    have hmul : (x + 2 ^ i) % 2 ^ i = 0 := root_mod x i hx
    have hmul2 : x % 2 ^ i = 0 := root_mod2 x i hx
    have hrb2 : rbits (n * 18446744073709551616 ^ 2) 2 (if (x + 2 ^ i) ^ 2 ≤ n * 18446744073709551616 ^ 2 then x + 2 ^ i else x) i = rbits (n * 18446744073709551616 ^ 2) 2 0 75 := hrb
    have HT10 := hid hT10; have HG10 := hid hG10; have HR10 := hid hR10; have HB10 := hid hB10; have HM1 := hid hmul; have HM2 := hid hmul2; have HRB := hid hrb2; have HXI := hid hxi
    have HZ10 : Hid ((wA x).size = (wA (x + 2 ^ i)).size) := hid rfl
    clear hT10 hG10 hR10 hB10 hmul hmul2 hrb2 hrb hb10 HCW HCG HPC HAC hxi HR
    by_cases hle : (x + 2 ^ i) ^ 2 ≤ n * 18446744073709551616 ^ 2
    · rw [decide_eq_true hle]
      rw [if_pos hle] at HRB
      clear hle
      rcases i with _ | j
      · have hi0 : ¬ (0 : Int) < ((0 : Nat) : Int) := by omega
        have hrow : (w10.setRow (w.heap.size + 1) (wA (x + 2 ^ 0))).heap[w.heap.size + 1]? = some (.cells (wA (x + 2 ^ 0)) A4W (0, 0)) := setRow_heap _ _ _ _ _ _ HR10.out
        have hgr : (w10.setRow (w.heap.size + 1) (wA (x + 2 ^ 0))).heap[w.heap.size]? = some (.cells (wA (n * 18446744073709551616 ^ 2)) A4W (0, 0)) := (setRow_other _ _ _ _ (by omega)).trans HG10.out
        have hbl : Below w.heap.size w (w10.setRow (w.heap.size + 1) (wA (x + 2 ^ 0))) := below_setRow HB10.out (by omega) _
        have hc0 : (w10.setRow (w.heap.size + 1) (wA (x + 2 ^ 0))).cell? ⟨w.heap.size + 1, 0, none⟩ = some (.int .u64 ((wd (x + 2 ^ 0) 0 : Nat) : Int)) := cell_of hrow 0 _ (wF_get _ 0 (by omega))
        have hfin : wd (x + 2 ^ 0) 0 = rbits (n * 18446744073709551616 ^ 2) 2 0 75 % 18446744073709551616 := by rw [← HRB.out]; simp [wd, rbits]
        have HF := hid hfin; have HBL := hid hbl
        clear hrow hgr hbl hfin
        go_wp2_with (first
          | fail
          | (with_reducible refine wpList_load_row rfl 65 (.tmp 8) rfl T rfl A4W (wA (x + 2 ^ 0)) (0, 0) _ HT10.out undW rfl (HI2.out _) ?_)
          | (with_reducible refine wpList_store_row rfl 65 (.tmp 6) _ rfl (w.heap.size + 1) (wA (x + 2 ^ 0)) rfl rfl A4W (wA x) HR10.out (HI2.out _) HZ10.out (HO.out _) ?_))
        simp only [Exit.jump]
        go_ret
        exact ⟨by rw [← HF.out]; rfl, HBL.out⟩
      · have hi0 : (0 : Int) < ((j + 1 : Nat) : Int) := by omega
        have hij : ((j + 1 : Nat) : Int) - 1 = (j : Int) := by omega
        have hj73 : ((j + 1 : Nat) : Int) ≤ 74 := by omega
        have hrow : (w10.setRow (w.heap.size + 1) (wA (x + 2 ^ (j + 1)))).heap[w.heap.size + 1]? = some (.cells (wA (x + 2 ^ (j + 1))) A4W (0, 0)) := setRow_heap _ _ _ _ _ _ HR10.out
        have hgr : (w10.setRow (w.heap.size + 1) (wA (x + 2 ^ (j + 1)))).heap[w.heap.size]? = some (.cells (wA (n * 18446744073709551616 ^ 2)) A4W (0, 0)) := (setRow_other _ _ _ _ (by omega)).trans HG10.out
        have hbl : Below w.heap.size w (w10.setRow (w.heap.size + 1) (wA (x + 2 ^ (j + 1)))) := below_setRow HB10.out (by omega) _
        have HROW := hid hrow; have HGR := hid hgr; have HBL := hid hbl
        clear hrow hgr hbl
        go_wp2_with (first
          | fail
          | (with_reducible refine wpList_load_row rfl 65 (.tmp 8) rfl T rfl A4W (wA (x + 2 ^ (j + 1))) (0, 0) _ HT10.out undW rfl (HI2.out _) ?_)
          | (with_reducible refine wpList_store_row rfl 65 (.tmp 6) _ rfl (w.heap.size + 1) (wA (x + 2 ^ (j + 1))) rfl rfl A4W (wA x) HR10.out (HI2.out _) HZ10.out (HO.out _) ?_))
        go_step3
        refine ⟨rfl, ⟨x + 2 ^ (j + 1), j, _, _, _, _, _, _, _, _, _, _, _, _, _, _, _, _, _, _, _, _, _, rfl, ?_⟩, by simp [intOf, Act.put] <;> omega⟩
        exact ⟨by omega, HGR.out, HROW.out, HM1.out, HXI.out, HRB.out, HBL.out⟩
    · rw [decide_eq_false hle]
      rw [if_neg hle] at HRB
      clear hle
      rcases i with _ | j
      · have hi0 : ¬ (0 : Int) < ((0 : Nat) : Int) := by omega
        have hrow : (w10).heap[w.heap.size + 1]? = some (.cells (wA (x)) A4W (0, 0)) := HR10.out
        have hgr : (w10).heap[w.heap.size]? = some (.cells (wA (n * 18446744073709551616 ^ 2)) A4W (0, 0)) := HG10.out
        have hbl : Below w.heap.size w (w10) := HB10.out
        have hc0 : (w10).cell? ⟨w.heap.size + 1, 0, none⟩ = some (.int .u64 ((wd (x) 0 : Nat) : Int)) := cell_of hrow 0 _ (wF_get _ 0 (by omega))
        have hfin : wd (x) 0 = rbits (n * 18446744073709551616 ^ 2) 2 0 75 % 18446744073709551616 := by rw [← HRB.out]; simp [wd, rbits]
        have HF := hid hfin; have HBL := hid hbl
        clear hrow hgr hbl hfin
        go_wp2
        simp only [Exit.jump]
        go_ret
        exact ⟨by rw [← HF.out]; rfl, HBL.out⟩
      · have hi0 : (0 : Int) < ((j + 1 : Nat) : Int) := by omega
        have hij : ((j + 1 : Nat) : Int) - 1 = (j : Int) := by omega
        have hj73 : ((j + 1 : Nat) : Int) ≤ 74 := by omega
        have hrow : (w10).heap[w.heap.size + 1]? = some (.cells (wA (x)) A4W (0, 0)) := HR10.out
        have hgr : (w10).heap[w.heap.size]? = some (.cells (wA (n * 18446744073709551616 ^ 2)) A4W (0, 0)) := HG10.out
        have hbl : Below w.heap.size w (w10) := HB10.out
        have HROW := hid hrow; have HGR := hid hgr; have HBL := hid hbl
        clear hrow hgr hbl
        go_wp2
        go_step3
        refine ⟨rfl, ⟨x, j, _, _, _, _, _, _, _, _, _, _, _, _, _, _, _, _, _, _, _, _, _, rfl, ?_⟩, by simp [intOf, Act.put] <;> omega⟩
        exact ⟨by omega, HGR.out, HROW.out, HM2.out, hx75, HRB.out, HBL.out⟩
set_option maxRecDepth 100000 in
set_option maxHeartbeats 800000 in
theorem Root_good3 (n : Nat) (w : World) (hn : n ≤ 1048576) :
    Calls Tryd.prog 31 #[.int .u64 (n : Int), .int .i64 3] w fun e w' => e = .returned (.int .u64 ((rbits (n * 18446744073709551616 ^ 3) 3 0 75 % 18446744073709551616 : Nat) : Int)) ∧ Below w.heap.size w w' := by
  have hn1 : ¬ (1048576 : Int) < (n : Int) := by omega
  have hz0 : ∀ W : World, (zeroValue 65).run Tryd.prog W = .ok (.agg (wA 0)) W := fun W => by rw [wA_zero]; kernel_rfl
  have h1 := heap_alloc2_old w (.cells (wA 0) A4W) (.cells (wA 0) A4W)
  have hc2 : ((w.alloc (.cells (wA 0) A4W)).alloc (.cells (wA 0) A4W)).cell? ⟨w.heap.size, 3, none⟩ = some (.int .u64 0) := cell_of h1 3 _ rfl
  have hf2 : ((w.alloc (.cells (wA 0) A4W)).alloc (.cells (wA 0) A4W)).frozen? ⟨w.heap.size, 3, none⟩ = false := frozen_of_row _ _ _ _ _ h1
  have H1 := hid h1
  clear h1
  go_enter Tryd.func31, Tryd.ntmps31
  go_wp2
  refine wp_scope_at 0 (fun a' w' => ∃ (x i : Nat) (u8 u22 u23 u24 u25 u26 u27 u28 u29 u30 u31 u32 u33 u34 u35 u36 u37 u38 u39 u40 u41 : Value), a' = { tmps := #[.int .u64 (n : Int), .int .i64 3, undef, undef, .int .u64 0, .pointer (some ⟨w.heap.size, 0, none⟩), .pointer (some ⟨w.heap.size + 1, 0, none⟩), .int .i64 (i : Int), u8, .int .u64 (n : Int), .bool (decide ((1048576 : Int) < (n : Int))), .bool (decide ((1048576 : Int) < (n : Int))), .int .i64 3, .bool true, .bool true, .int .i64 3, .bool false, .bool false, .bool (decide ((1048576 : Int) < (n : Int))), .int .i64 3, .int .u64 (n : Int), .pointer (some ⟨w.heap.size, 3, none⟩), u22, u23, u24, u25, u26, u27, u28, u29, u30, u31, u32, u33, u34, u35, u36, u37, u38, u39, u40, u41, undef, undef], defers := [] } ∧ RootAt w n 3 x i w') (fun a' _ => (intOf (a'.tmps.getD 7 undef)).toNat) rfl ?_ ?_
  · intro Qj hQr hJ
    go_wp2
    refine wp_label ?_
    rename_i K hK
    refine hK _ _ (hJ _ _ ⟨0, 74, _, _, _, _, _, _, _, _, _, _, _, _, _, _, _, _, _, _, _, _, _, rfl, ?_⟩)
    refine ⟨by omega, ?_, heap_alloc2_new w _ _, by simp, by decide, rfl, ((Below.refl _ _).alloc (Nat.le_refl _) _).alloc (by simp) _⟩
    rw [goal_set n 3 (by omega) (by simp)]
    exact heap_alloc2_old w _ _
  · rintro a' w' ⟨x, i, u8, u22, u23, u24, u25, u26, u27, u28, u29, u30, u31, u32, u33, u34, u35, u36, u37, u38, u39, u40, u41, rfl, hR⟩
    have HR := hid hR
    obtain ⟨hi, hg, hr, hx, hx75, hrb, hbel⟩ := hR
    have HG := hid hg; have HRT := hid hr; have HB := hid hbel
    have HI : ∀ n : Nat, (Tryd.prog.info? 65).map (·.size) = some (wA n).size := fun n => info4W.trans (congrArg some (wF_size _).symm)
    have hO : ∀ n : Nat, (wA n).all (·.oneCell') = true := fun n => wF_one _
    have HI2 := hid HI; have HO := hid hO
    have HZ : Hid ((wA 0).size = (wA x).size) := hid rfl
    clear hg hr hbel HI hO hc2 hf2 H1 hn1
    go_wp2_with (first
      | (with_reducible refine wpList_load_row rfl 65 (.tmp 6) rfl (w.heap.size + 1) rfl A4W (wA x) (0, 0) _ HRT.out undW rfl (HI2.out x) ?_)
      | (with_reducible refine wpList_store_row rfl 65 (.tmp 8) _ rfl w'.heap.size (wA x) rfl rfl A4W (wA 0) (heap_alloc_new _ _) (HI2.out x) HZ.out (HO.out x) ?_; rw [World.setRow_alloc_new]))
    obtain ⟨q, hq⟩ : ∃ q, q = i / 64 := ⟨_, rfl⟩
    obtain ⟨r, hr⟩ : ∃ r, r = i % 64 := ⟨_, rfl⟩
    have hi0 : (0 : Int) ≤ (i : Int) := by omega
    have hq1 : ((i : Int)).tdiv 64 = (q : Int) := by rw [Int.tdiv_eq_ediv_of_nonneg hi0]; omega
    have hq2 : (i : Int) / 64 = (q : Int) := by omega
    have hr1 : ((i : Int)).tmod 64 = (r : Int) := by rw [Int.tmod_eq_emod_of_nonneg hi0]; omega
    have hr2 : (i : Int) % 64 = (r : Int) := by omega
    have hq4 : q < 4 := by omega
    have hq4i : (q : Int) < 4 := by omega
    have hq0i : (0 : Int) ≤ (q : Int) := by omega
    have hr64 : (r : Int) < 64 := by omega
    have hr0i : (0 : Int) ≤ (r : Int) := by omega
    have hqw : IntKind.i64.wrap (q : Int) = (q : Int) := IntWalk.i64_in _ (by omega)
    have hrw : IntKind.i64.wrap (r : Int) = (r : Int) := IntWalk.i64_in _ (by omega)
    have hrow8 := heap_alloc_new w' (.cells (wA x) A4W)
    have hct : (w'.alloc (.cells (wA x) A4W)).cell? ⟨w'.heap.size, q, none⟩ = some (.int .u64 ((wd x q : Nat) : Int)) := cell_of hrow8 q _ (wF_get _ q hq4)
    have hft : (w'.alloc (.cells (wA x) A4W)).frozen? ⟨w'.heap.size, q, none⟩ = false := frozen_of_row _ _ _ _ _ hrow8
    have HROW8 := hid hrow8; have HQ := hid hq; have HRR := hid hr
    clear hq hr hrow8 hi0 hz0
    refine wp_region_quiet_tail 8 (by kernel_rfl) (by kernel_rfl) ?_
    simp only [List.take_succ_cons, List.take_zero, List.drop_succ_cons, List.drop_zero]
    repeat (quiet_step (fail))
    refine wpQuiet_nil ?_
    intro _ hw'
    obtain ⟨nq, hw''⟩ := hw'
    subst hw''
    go_wp2
    have h2r : IntKind.u64.wrap (2 ^ r) = ((2 ^ r : Nat) : Int) := by
      have h := Nat.pow_lt_pow_right (a := 2) (by omega) (show r < 64 by omega)
      have e : ((2 : Int) ^ r) = ((2 ^ r : Nat) : Int) := by simp
      rw [e, IntKind.wrap_u64]
      generalize 2 ^ r = z at *
      omega
    rw [h2r, tried_bit x i q r HQ.out HRR.out hi hx]
    have hW := block_set (w := (w'.alloc (.cells (wA x) A4W)).drewN nq) HROW8.out q (.int .u64 ((wd x q + 2 ^ r : Nat) : Int))
    rw [tried_set x i q r HQ.out HRR.out hi hx hx75] at hW
    have hGo : (((w'.alloc (.cells (wA x) A4W)).drewN nq).setCell ⟨w'.heap.size, q, none⟩ (.int .u64 ((wd x q + 2 ^ r : Nat) : Int))).heap[w.heap.size]? = some (.cells (wA (n * 18446744073709551616 ^ 3)) A4W (0, 0)) :=
      (heap_setCell_other ((w'.alloc (.cells (wA x) A4W)).drewN nq) _ _ _ (by have := block_lt HG.out; simp; omega)).trans ((Below.heap_alloc _ _ _ (block_lt HG.out)).trans HG.out)
    have hRo : (((w'.alloc (.cells (wA x) A4W)).drewN nq).setCell ⟨w'.heap.size, q, none⟩ (.int .u64 ((wd x q + 2 ^ r : Nat) : Int))).heap[w.heap.size + 1]? = some (.cells (wA x) A4W (0, 0)) :=
      (heap_setCell_other ((w'.alloc (.cells (wA x) A4W)).drewN nq) _ _ _ (by have := block_lt HRT.out; simp; omega)).trans ((Below.heap_alloc _ _ _ (block_lt HRT.out)).trans HRT.out)
    have hB9 : Below w.heap.size w (((w'.alloc (.cells (wA x) A4W)).drewN nq).setCell ⟨w'.heap.size, q, none⟩ (.int .u64 ((wd x q + 2 ^ r : Nat) : Int))) :=
      (below_drewN (HB.out.alloc HB.out.size _) nq).setCell HB.out.size _
    have HW := hid hW; have HGo := hid hGo; have HRo := hid hRo; have HB9 := hid hB9
    have hlw : w.heap.size + 1 < w'.heap.size := block_lt HRT.out
    clear hW hGo hRo hB9 h2r hct hft hq1 hq2 hr1 hr2 hqw hrw HROW8 HG HRT HB
    generalize w'.heap.size = T at *
    generalize ((w'.alloc (.cells (wA x) A4W)).drewN nq).setCell ⟨T, q, none⟩ (.int .u64 ((wd x q + 2 ^ r : Nat) : Int)) = w9 at *
    have hxi : (x + 2 ^ i) < 2 ^ 75 := root_fits x i hi hx hx75
    have hxB : x + 2 ^ i < 18446744073709551616 ^ 4 := Nat.lt_trans hxi (by decide)
    have hpw : ∀ j, j ≤ 3 → (x + 2 ^ i) ^ j < 18446744073709551616 ^ 4 := fun j hj => pow_fits _ j hxi hj
    have HPW := hid hpw
    have hTl : T < w9.heap.size := block_lt HW.out
    have hgl : w.heap.size < w9.heap.size := block_lt HGo.out
    have hCW : ∀ W', Below w9.heap.size w9 W' → W'.heap[T]? = some (.cells (wA (x + 2 ^ i)) A4W (0, 0)) := fun W' h => (h.block T hTl).trans HW.out
    have hCG : ∀ W', Below w9.heap.size w9 W' → W'.heap[w.heap.size]? = some (.cells (wA (n * 18446744073709551616 ^ 3)) A4W (0, 0)) := fun W' h => (h.block w.heap.size hgl).trans HGo.out
    have HCW := hid hCW; have HCG := hid hCG
    clear hCW hCG hpw hxB
    refine wp_region_grown (by kernel_rfl) (by kernel_rfl) ?_
    refine quiet_row rfl 65 (.tmp 8) rfl T rfl A4W (wA (x + 2 ^ i)) (0, 0) _ HCW.out undW rfl (HI2.out _) ?_
    refine quiet_val rfl (.int .i64 3) (fun _ _ => rfl) ?_
    have HPC : Hid (∀ w1, Below w9.heap.size w9 w1 → Calls Tryd.prog 46 #[.agg (wA (x + 2 ^ i)), .int .i64 3] w1 fun e w2 => e = .returned (.agg (wA ((x + 2 ^ i) ^ 3))) ∧ Below w9.heap.size w9 w2) := hid fun w1 hw1 =>
      (power_any (x + 2 ^ i) 3 w1 (by have := HPW.out 1 (by omega); rwa [Nat.pow_one] at this) (by omega) (by omega) (fun j hj hj2 => HPW.out j (by omega))).mono fun e w2 h => ⟨h.1, hw1.trans (h.2.mono hw1.size)⟩
    have HAC : Hid (∀ w1, Below w9.heap.size w9 w1 → Calls Tryd.prog 45 #[.agg (wA ((x + 2 ^ i) ^ 3)), .agg (wA (n * 18446744073709551616 ^ 3))] w1 fun e w2 => e = .returned (.bool (decide ((x + 2 ^ i) ^ 3 ≤ n * 18446744073709551616 ^ 3))) ∧ Below w9.heap.size w9 w2) := hid fun w1 hw1 =>
      (atMost_any _ _ w1 (HPW.out 3 (by omega)) (goal_fits n 3 hn (by omega))).mono fun e w2 h => ⟨h.1, hw1.trans (h.2.mono hw1.size)⟩
    refine wpQuiet_step (fun K hK => ?_)
    go_simp
    refine ⟨_, HPC.out, hK _ ?_⟩
    clear hK K
    refine quiet_row rfl 65 (.tmp 5) rfl w.heap.size rfl A4W (wA (n * 18446744073709551616 ^ 3)) (0, 0) _ HCG.out undW rfl (HI2.out _) ?_
    refine wpQuiet_step (fun K hK => ?_)
    go_simp
    refine ⟨_, HAC.out, hK _ ?_⟩
    clear hK K
    refine wpQuiet_nil ?_
    intro w10 hb10
    have hT10 := HCW.out w10 hb10
    have hG10 := HCG.out w10 hb10
    have hR10 : w10.heap[w.heap.size + 1]? = some (.cells (wA x) A4W (0, 0)) := (hb10.block _ (block_lt HRo.out)).trans HRo.out
    have hB10 : Below w.heap.size w w10 := HB9.out.trans (hb10.mono (by have := HB9.out.size; exact this))
    have hmul : (x + 2 ^ i) % 2 ^ i = 0 := root_mod x i hx
    have hmul2 : x % 2 ^ i = 0 := root_mod2 x i hx
    have hrb2 : rbits (n * 18446744073709551616 ^ 3) 3 (if (x + 2 ^ i) ^ 3 ≤ n * 18446744073709551616 ^ 3 then x + 2 ^ i else x) i = rbits (n * 18446744073709551616 ^ 3) 3 0 75 := hrb
    have HT10 := hid hT10; have HG10 := hid hG10; have HR10 := hid hR10; have HB10 := hid hB10; have HM1 := hid hmul; have HM2 := hid hmul2; have HRB := hid hrb2; have HXI := hid hxi
    have HZ10 : Hid ((wA x).size = (wA (x + 2 ^ i)).size) := hid rfl
    clear hT10 hG10 hR10 hB10 hmul hmul2 hrb2 hrb hb10 HCW HCG HPC HAC hxi HR
    by_cases hle : (x + 2 ^ i) ^ 3 ≤ n * 18446744073709551616 ^ 3
    · rw [decide_eq_true hle]
      rw [if_pos hle] at HRB
      clear hle
      rcases i with _ | j
      · have hi0 : ¬ (0 : Int) < ((0 : Nat) : Int) := by omega
        have hrow : (w10.setRow (w.heap.size + 1) (wA (x + 2 ^ 0))).heap[w.heap.size + 1]? = some (.cells (wA (x + 2 ^ 0)) A4W (0, 0)) := setRow_heap _ _ _ _ _ _ HR10.out
        have hgr : (w10.setRow (w.heap.size + 1) (wA (x + 2 ^ 0))).heap[w.heap.size]? = some (.cells (wA (n * 18446744073709551616 ^ 3)) A4W (0, 0)) := (setRow_other _ _ _ _ (by omega)).trans HG10.out
        have hbl : Below w.heap.size w (w10.setRow (w.heap.size + 1) (wA (x + 2 ^ 0))) := below_setRow HB10.out (by omega) _
        have hc0 : (w10.setRow (w.heap.size + 1) (wA (x + 2 ^ 0))).cell? ⟨w.heap.size + 1, 0, none⟩ = some (.int .u64 ((wd (x + 2 ^ 0) 0 : Nat) : Int)) := cell_of hrow 0 _ (wF_get _ 0 (by omega))
        have hfin : wd (x + 2 ^ 0) 0 = rbits (n * 18446744073709551616 ^ 3) 3 0 75 % 18446744073709551616 := by rw [← HRB.out]; simp [wd, rbits]
        have HF := hid hfin; have HBL := hid hbl
        clear hrow hgr hbl hfin
        go_wp2_with (first
          | fail
          | (with_reducible refine wpList_load_row rfl 65 (.tmp 8) rfl T rfl A4W (wA (x + 2 ^ 0)) (0, 0) _ HT10.out undW rfl (HI2.out _) ?_)
          | (with_reducible refine wpList_store_row rfl 65 (.tmp 6) _ rfl (w.heap.size + 1) (wA (x + 2 ^ 0)) rfl rfl A4W (wA x) HR10.out (HI2.out _) HZ10.out (HO.out _) ?_))
        simp only [Exit.jump]
        go_ret
        exact ⟨by rw [← HF.out]; rfl, HBL.out⟩
      · have hi0 : (0 : Int) < ((j + 1 : Nat) : Int) := by omega
        have hij : ((j + 1 : Nat) : Int) - 1 = (j : Int) := by omega
        have hj73 : ((j + 1 : Nat) : Int) ≤ 74 := by omega
        have hrow : (w10.setRow (w.heap.size + 1) (wA (x + 2 ^ (j + 1)))).heap[w.heap.size + 1]? = some (.cells (wA (x + 2 ^ (j + 1))) A4W (0, 0)) := setRow_heap _ _ _ _ _ _ HR10.out
        have hgr : (w10.setRow (w.heap.size + 1) (wA (x + 2 ^ (j + 1)))).heap[w.heap.size]? = some (.cells (wA (n * 18446744073709551616 ^ 3)) A4W (0, 0)) := (setRow_other _ _ _ _ (by omega)).trans HG10.out
        have hbl : Below w.heap.size w (w10.setRow (w.heap.size + 1) (wA (x + 2 ^ (j + 1)))) := below_setRow HB10.out (by omega) _
        have HROW := hid hrow; have HGR := hid hgr; have HBL := hid hbl
        clear hrow hgr hbl
        go_wp2_with (first
          | fail
          | (with_reducible refine wpList_load_row rfl 65 (.tmp 8) rfl T rfl A4W (wA (x + 2 ^ (j + 1))) (0, 0) _ HT10.out undW rfl (HI2.out _) ?_)
          | (with_reducible refine wpList_store_row rfl 65 (.tmp 6) _ rfl (w.heap.size + 1) (wA (x + 2 ^ (j + 1))) rfl rfl A4W (wA x) HR10.out (HI2.out _) HZ10.out (HO.out _) ?_))
        go_step3
        refine ⟨rfl, ⟨x + 2 ^ (j + 1), j, _, _, _, _, _, _, _, _, _, _, _, _, _, _, _, _, _, _, _, _, _, rfl, ?_⟩, by simp [intOf, Act.put] <;> omega⟩
        exact ⟨by omega, HGR.out, HROW.out, HM1.out, HXI.out, HRB.out, HBL.out⟩
    · rw [decide_eq_false hle]
      rw [if_neg hle] at HRB
      clear hle
      rcases i with _ | j
      · have hi0 : ¬ (0 : Int) < ((0 : Nat) : Int) := by omega
        have hrow : (w10).heap[w.heap.size + 1]? = some (.cells (wA (x)) A4W (0, 0)) := HR10.out
        have hgr : (w10).heap[w.heap.size]? = some (.cells (wA (n * 18446744073709551616 ^ 3)) A4W (0, 0)) := HG10.out
        have hbl : Below w.heap.size w (w10) := HB10.out
        have hc0 : (w10).cell? ⟨w.heap.size + 1, 0, none⟩ = some (.int .u64 ((wd (x) 0 : Nat) : Int)) := cell_of hrow 0 _ (wF_get _ 0 (by omega))
        have hfin : wd (x) 0 = rbits (n * 18446744073709551616 ^ 3) 3 0 75 % 18446744073709551616 := by rw [← HRB.out]; simp [wd, rbits]
        have HF := hid hfin; have HBL := hid hbl
        clear hrow hgr hbl hfin
        go_wp2
        simp only [Exit.jump]
        go_ret
        exact ⟨by rw [← HF.out]; rfl, HBL.out⟩
      · have hi0 : (0 : Int) < ((j + 1 : Nat) : Int) := by omega
        have hij : ((j + 1 : Nat) : Int) - 1 = (j : Int) := by omega
        have hj73 : ((j + 1 : Nat) : Int) ≤ 74 := by omega
        have hrow : (w10).heap[w.heap.size + 1]? = some (.cells (wA (x)) A4W (0, 0)) := HR10.out
        have hgr : (w10).heap[w.heap.size]? = some (.cells (wA (n * 18446744073709551616 ^ 3)) A4W (0, 0)) := HG10.out
        have hbl : Below w.heap.size w (w10) := HB10.out
        have HROW := hid hrow; have HGR := hid hgr; have HBL := hid hbl
        clear hrow hgr hbl
        go_wp2
        go_step3
        refine ⟨rfl, ⟨x, j, _, _, _, _, _, _, _, _, _, _, _, _, _, _, _, _, _, _, _, _, _, rfl, ?_⟩, by simp [intOf, Act.put] <;> omega⟩
        exact ⟨by omega, HGR.out, HROW.out, HM2.out, hx75, HRB.out, HBL.out⟩

/-- Of another k, or a greater number: nothing. -/
theorem Root_bad (n : Nat) (k : Int) (w : World) (hn : n < 18446744073709551616) (h : 1048576 < n ∨ (k ≠ 2 ∧ k ≠ 3)) :
    Calls Tryd.prog 31 #[.int .u64 (n : Int), .int .i64 k] w fun e w' => e = .returned (.int .u64 0) ∧ w' = w := by
  rcases h with h | ⟨h2, h3⟩
  · have hb : (1048576 : Int) < (n : Int) := by omega
    go_enter Tryd.func31, Tryd.ntmps31
    go_wp2
    go_step3
    go_wp2
    rw [Exit.noGoto_ret]
    go_ret
    exact ⟨rfl, rfl⟩
  · by_cases hb : (1048576 : Int) < (n : Int)
    · go_enter Tryd.func31, Tryd.ntmps31
      go_wp2
      go_step3
      go_wp2
      rw [Exit.noGoto_ret]
      go_ret
      exact ⟨rfl, rfl⟩
    · have e2 : (k != 2) = true := by simp [h2]
      have e3 : (k != 3) = true := by simp [h3]
      go_enter Tryd.func31, Tryd.ntmps31
      go_wp2
      go_step3
      go_wp2
      rw [Exit.noGoto_ret]
      go_ret
      exact ⟨rfl, rfl⟩
end Go.Proofs.YtokggppfobbblaaDoor
