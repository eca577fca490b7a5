/-
  Texts of this claim in one file: FldA, FldB.
-/
import Derived.Test.YtgehfbcagaaggaaGreatDoorPk10
import Derived.Test.YtgehfbcagaaggaaGreatDoorPk42
import Derived.Test.YtgehfbcagaaggaaGreatDoorPk0
import Derived.Deep.RegionHeld3
section
namespace Go.Proofs.YtgehfbcagaaggaaGreatDoor
section
open Go.RowKit
set_option linter.unusedVariables false
set_option linter.unusedSimpArgs false
theorem bvs_cell {w : World} {g : Nat} {t : TypeId} {L : List UInt8} (h : w.heap[g]? = some (.cells (bvs L).toArray t (0, 0))) (k : Nat) (hk : k < L.length) : ∃ v, w.cell? ⟨g, k, none⟩ = some v :=
  ⟨_, cell_of h k _ (by rw [List.getElem?_toArray]; exact List.getElem?_eq_getElem (by simpa using hk))⟩
theorem bvs_set (L : List UInt8) (p : Nat) (y : UInt8) : (bvs L).toArray.setIfInBounds p (Value.int .u8 ((y.toNat : Nat) : Int)) = (bvs (L.set p y)).toArray := by
  simp [bvs, List.map_set]
theorem bvs_sq {w : World} {g c : Nat} {t : TypeId} {L : List UInt8} (h : w.heap[g]? = some (.cells (bvs L).toArray t (0, 0))) (hc : L.length ≤ c) (hc2 : c ≤ 9223372036854775807) : Sq w w.heap.size (some ⟨g, 0, none⟩) c (bvs L) :=
  .inr ⟨g, 0, rfl, block_lt h, by simpa using hc, hc2, fun j u hu => by rw [Nat.zero_add]; exact cell_of h j u (by rw [List.getElem?_toArray]; exact hu)⟩
/-- The bytes of such a power. -/
def expB (a b : UInt8) : List UInt8 := a :: (List.replicate 30 255 ++ [b])
theorem expB_length (a b : UInt8) : (expB a b).length = 32 := rfl
theorem exp_set (a b : UInt8) : ((List.replicate 32 (255 : UInt8)).set 0 a).set 31 b = expB a b := rfl
set_option maxHeartbeats 1000000 in
theorem exponent_e (a b : UInt8) (w : World) :
    Calls Tryz.prog 127 #[.int .u8 ((a.toNat : Nat) : Int), .int .u8 ((b.toNat : Nat) : Int)] w fun e w' => ∃ A, e = .returned (.slice A 32 32) ∧ Sq w' w'.heap.size A 32 (bvs (expB a b)) ∧ Below w.heap.size w w' := by
  obtain ⟨i0, hi, hz0, hz1, hz2⟩ := info_parts infoU8
  go_enter Tryz.func127, Tryz.ntmps127
  go_wp2_with (at_make; refine wpList_make_full _ rfl _ _ 22 rfl w.heap.size 5 i0 (.int .u8 0) 1 Tryz.underlying22 hi hz0 hz1 _ _ _ _ 32 rfl rfl ?c0 ?c1 ?c2 ?c3 ?c4 ?_)
  case c0 => omega
  case c1 => omega
  case c2 => rw [hz2]; omega
  case c3 => unfold maxLen; omega
  case c4 => exact Nat.le_refl _
  intro w1 hown hg
  obtain ⟨hrow, _⟩ := own_row hown
  have hb1 : Below w.heap.size w w1 := below_of_grown hg (Nat.le_refl _) (fun _ h => by cases h)
  have hcs : (madeCells #[Value.int .u8 0] 32).toList = bvs (List.replicate 0 255 ++ List.replicate 32 0) := by
    rw [toList_madeCells_one]; rfl
  rw [hcs] at hrow
  have HROW := hid hrow; have HB := hid hb1
  clear hown hg hrow hb1 hcs hi hz0 hz1 hz2
  go_wp2
  go_loopg [10] 32 (fun g i wr => ∃ k : Nat, k + g = 32 ∧ i = .int .i64 (k : Int) ∧ wr.heap[w.heap.size]? = some (.cells (bvs (List.replicate k 255 ++ List.replicate (32 - k) 0)).toArray 5 (0, 0)) ∧ Below w.heap.size w wr)
  case atStart => exact ⟨0, by omega, rfl, HROW.out, HB.out⟩
  case round =>
    clear HROW HB
    obtain ⟨k, hk, rfl, hrow, hb⟩ := hrel
    have HK := hid hk; have HB := hid hb; have HROW := hid hrow
    have hk4 : k ≤ 32 := by omega
    clear hk hb
    by_cases hlt : k < 32
    · have hx : (k : Int) < 32 := by omega
      have hk0 : (0 : Int) ≤ (k : Int) := by omega
      obtain ⟨v0, hcell⟩ := bvs_cell hrow k (by simp; omega)
      have hfz : wr.frozen? ⟨w.heap.size, k, none⟩ = false := frozen_of_row _ _ _ _ _ hrow
      have hset : (List.replicate k (255 : UInt8) ++ List.replicate (32 - k) 0).set k 255 = List.replicate (k + 1) 255 ++ List.replicate (32 - (k + 1)) 0 := by
        rw [List.set_append_right _ _ (by simp), show 32 - k = (32 - (k + 1)) + 1 by omega, List.replicate_succ (n := 32 - (k + 1)), List.length_replicate, Nat.sub_self, List.set_cons_zero, List.replicate_succ' (n := k), List.append_assoc]
        rfl
      have hrow2 := block_set hrow k (.int .u8 (((255 : UInt8).toNat : Nat) : Int))
      rw [bvs_set, hset] at hrow2
      have HR2 := hid hrow2
      clear hrow hset hrow2
      go_wp2
      have hk := HK.out
      go_roundg (32 - k - 1)
      case measure => omega
      case rel => exact ⟨k + 1, by omega, by go_num, HR2.out, HB.out.setCell (Nat.le_refl _) _⟩
    · obtain rfl : k = 32 := by omega
      have hrow0 : wr.heap[w.heap.size]? = some (.cells (bvs (List.replicate 32 255)).toArray 5 (0, 0)) := hrow
      obtain ⟨v0, hc0⟩ := bvs_cell hrow0 0 (by simp)
      have hf0 : wr.frozen? ⟨w.heap.size, 0, none⟩ = false := frozen_of_row _ _ _ _ _ hrow
      have hr1 := block_set hrow0 0 (.int .u8 ((a.toNat : Nat) : Int))
      rw [bvs_set] at hr1
      obtain ⟨v1, hc1⟩ := bvs_cell hr1 31 (by simp)
      have hf1 := frozen_of_row _ _ 31 _ _ hr1
      have hr2 := block_set hr1 31 (.int .u8 ((b.toNat : Nat) : Int))
      rw [bvs_set, exp_set] at hr2
      have HR2 := hid hr2
      have HB2 := hid ((HB.out.setCell (p := ⟨w.heap.size, 0, none⟩) (Nat.le_refl _) (.int .u8 ((a.toNat : Nat) : Int))).setCell (p := ⟨w.heap.size, 31, none⟩) (Nat.le_refl _) (.int .u8 ((b.toNat : Nat) : Int)))
      clear hrow hrow0 hr1 hr2 HROW
      go_wp2
      go_ret
      exact ⟨_, rfl, bvs_sq HR2.out (by simp [expB_length]) (by omega), HB2.out⟩
end
section
open Go.RowKit
set_option linter.unusedVariables false
set_option linter.unusedSimpArgs false
theorem pow_even (x E m : Nat) (h : E / 2 ^ m % 2 = 0) : (x ^ (E / 2 ^ (m + 1)) % pp) * (x ^ (E / 2 ^ (m + 1)) % pp) % pp = x ^ (E / 2 ^ m) % pp := by
  rw [half_step E m, h, Nat.mod_mul_mod, Nat.mul_mod_mod, ← Nat.pow_two, ← Nat.pow_mul, Nat.mul_comm 2]
  simp only [Nat.add_zero]
theorem pow_odd (x E m : Nat) (h : E / 2 ^ m % 2 = 1) : ((x ^ (E / 2 ^ (m + 1)) % pp) * (x ^ (E / 2 ^ (m + 1)) % pp) % pp) * x % pp = x ^ (E / 2 ^ m) % pp := by
  conv => rhs; rw [half_step E m, h]
  rw [Nat.mod_mul_mod, Nat.mul_assoc, Nat.mod_mul_mod, ← Nat.mul_assoc, Nat.mul_comm _ x, ← Nat.mul_assoc, Nat.mul_mod_mod, Nat.mul_assoc, ← Nat.pow_two, ← Nat.pow_mul, Nat.mul_comm x, ← Nat.pow_succ, Nat.mul_comm 2]
/-- At the label: the power of the upper bits. -/
def PowAt (w : World) (x : Nat) (xs : List UInt8) (m g : Nat) (wr : World) : Prop :=
  m ≤ 8 * xs.length ∧ wr.heap[w.heap.size]? = some (.cells (eA x) ET (0, 0)) ∧ wr.heap[w.heap.size + 1]? = some (.cells z4 ET (0, 0)) ∧
  wr.heap[g]? = some (.cells (eA (x ^ (leN xs / 2 ^ m) % pp)) ET (0, 0)) ∧ w.heap.size + 1 < g ∧ Below w.heap.size w wr
set_option maxHeartbeats 1000000 in
theorem Pow_e (x : Nat) (A : Option Addr) (xs : List UInt8) (c : Nat) (w : World) (hx : x < pp) (hS : Sq w w.heap.size A c (bvs xs)) (hl : xs.length ≤ 1000000) :
    Calls Tryz.prog 126 #[.agg (eA x), .slice A xs.length c] w fun e w' => e = .returned (.agg (eA (x ^ leN xs % pp))) ∧ Below w.heap.size w w' := by
  have hn := fun W => Num_e 1 W (by omega)
  rw [eA_small 1 (by omega)] at hn
  have HN := hid hn; have HS := hid hS; have HX := hid hx
  have h8 : IntKind.i64.wrap (8 * (xs.length : Int)) = ((8 * xs.length : Nat) : Int) := (IntWalk.i64_in _ (by omega)).trans (by omega)
  have hF := Fo.start w (eA x)
  obtain ⟨Z, hZ⟩ : ∃ Z, Z = x ^ leN xs % pp := ⟨_, rfl⟩
  rw [← hZ]
  have HZ := hid hZ
  clear hZ
  have HF := hid hF
  clear hn hS hF hx
  go_enter Tryz.func126, Tryz.ntmps126
  go_wp2_with fail
  refine wp_scope_at 0 (fun a' w' => ∃ (m g : Nat) (u7 u8 u9 u10 u11 u12 u13 u14 u15 u16 u17 u18 u19 u20 u21 u22 u23 u24 u25 u26 u27 u28 u29 u30 : Value), a' = { tmps := #[.agg (eA x), .slice A xs.length c, .pointer (some ⟨w.heap.size, 0, none⟩), undef, .pointer (some ⟨w.heap.size + 1, 0, none⟩), .pointer (some ⟨g, 0, none⟩), .int .i64 ((m : Nat) : Int), u7, u8, u9, u10, u11, u12, u13, u14, u15, u16, u17, u18, u19, u20, u21, u22, u23, u24, u25, u26, u27, u28, u29, u30], defers := [] } ∧ PowAt w x xs m g w') (fun a' _ => (intOf (a'.tmps.getD 6 undef)).toNat) rfl ?_ ?_
  · intro Qj hQr hJ
    go_wp2_with fail
    refine (HN.out _).mono ?_
    rintro e w1 ⟨rfl, hb⟩
    have F1 := hid (HF.out.call hb)
    clear hb
    go_wp2
    refine wp_label ?_
    rename_i K hK
    refine hK _ _ (hJ _ _ ⟨8 * xs.length, w1.heap.size, _, _, _, _, _, _, _, _, _, _, _, _, _, _, _, _, _, _, _, _, _, _, _, _, rfl, ?_⟩)
    have hl0 : leN xs / 2 ^ (8 * xs.length) = 0 := Nat.div_eq_of_lt (by have h := leN_lt xs; rwa [show (256 : Nat) = 2 ^ 8 by decide, ← Nat.pow_mul] at h)
    have h1 : x ^ (leN xs / 2 ^ (8 * xs.length)) % pp = 1 := by rw [hl0, Nat.pow_zero]; exact Nat.mod_eq_of_lt pp_two
    refine ⟨Nat.le_refl _, blkA F1.out.1 _, blkA F1.out.2.1 _, ?_, F1.out.2.2.2, F1.out.2.2.1.alloc F1.out.2.2.1.size _⟩
    rw [h1, eA_small 1 (by omega)]
    exact blkN rfl _ ET
  · rintro a' w' ⟨m, g, u7, u8, u9, u10, u11, u12, u13, u14, u15, u16, u17, u18, u19, u20, u21, u22, u23, u24, u25, u26, u27, u28, u29, u30, rfl, hP⟩
    clear HN HF h8
    obtain ⟨hm, h0, h1, h2, hg, hb⟩ := hP
    have H0 := hid h0; have H1 := hid h1; have H2 := hid h2; have HB := hid hb
    clear h0 h1 h2 hb
    rcases m with _ | m
    · have hv : x ^ (leN xs / 2 ^ 0) % pp = x ^ leN xs % pp := by rw [Nat.pow_zero, Nat.div_one]
      rw [hv, ← HZ.out] at H2
      clear hv
      go_wp2_with (first | (with_reducible refine wpList_load_row rfl ET (.tmp 5) rfl g rfl ET (eA Z) (0, 0) _ H2.out Tryz.underlying80 rfl (infoEA _) ?_) | (with_reducible refine wpList_store_row rfl ET (.tmp 4) _ rfl (w.heap.size + 1) (eA Z) rfl rfl ET z4 H1.out (infoEA _) (sizeZA _) (oneEA _) ?_))
      simp only [Exit.jump]
      refine bodyPost_ret (v := .agg (eA Z)) (results_cell_row rfl _ _ (w.heap.size + 1) ET _ (0, 0) _ rfl (setRow_heap _ _ _ _ _ _ H1.out) Tryz.underlying80 rfl (infoEA _)) rfl ⟨rfl, ?_⟩
      exact belowRow HB.out (by omega) _
    · have hj : m / 8 < xs.length := by omega
      have hbit := leN_bit xs m hj
      have hev := pow_even x (leN xs) m
      have hod := pow_odd x (leN xs) m
      obtain ⟨P, hP⟩ : ∃ P, P = x ^ (leN xs / 2 ^ (m + 1)) % pp := ⟨_, rfl⟩
      have hPl : P < pp := by rw [hP]; exact Nat.mod_lt _ pp_pos
      rw [← hP] at hev hod H2
      have hq := fun W => Square_e P W hPl
      obtain ⟨R, hR⟩ : ∃ R, R = P * P % pp := ⟨_, rfl⟩
      have hRl : R < pp := by rw [hR]; exact Nat.mod_lt _ pp_pos
      rw [← hR] at hev hod hq
      have hmu := fun W => Mul_e R x W hRl HX.out
      have HQ := hid hq; have HM := hid hmu; have HEV := hid hev; have HOD := hid hod
      obtain ⟨y, hy⟩ : ∃ y, y = xs[m / 8] := ⟨_, rfl⟩
      rw [← hy] at hbit
      obtain ⟨q, hqq⟩ : ∃ q, q = m / 8 := ⟨_, rfl⟩
      obtain ⟨r, hr⟩ : ∃ r, r = m % 8 := ⟨_, rfl⟩
      have hm0 : (0 : Int) ≤ (m : Int) := by omega
      have hq1 : ((m : Int)).tdiv 8 = (q : Int) := by rw [Int.tdiv_eq_ediv_of_nonneg hm0]; omega
      have hq2 : (m : Int) / 8 = (q : Int) := by omega
      have hr1 : ((m : Int)).tmod 8 = (r : Int) := by rw [Int.tmod_eq_emod_of_nonneg hm0]; omega
      have hr2 : (m : Int) % 8 = (r : Int) := by omega
      have hqw : IntKind.i64.wrap (q : Int) = (q : Int) := IntWalk.i64_in _ (by omega)
      have hrw : IntKind.i64.wrap (r : Int) = (r : Int) := IntWalk.i64_in _ (by omega)
      have hmw : IntKind.i64.wrap (((m + 1 : Nat) : Int) - 1) = (m : Int) := (IntWalk.i64_in _ (by omega)).trans (by omega)
      have hm1 : ((m + 1 : Nat) : Int) - 1 = (m : Int) := by omega
      have hne : (((m + 1 : Nat) : Int) == 0) = false := by rw [beq_eq_false_iff_ne]; omega
      have hqx : (q : Int) < (xs.length : Int) := by omega
      have hq0 : (0 : Int) ≤ (q : Int) := by omega
      have hr0 : (0 : Int) ≤ (r : Int) := by omega
      have hr8 : (r : Int) < 64 := by omega
      obtain ⟨b, o, rfl, hbl, hcell⟩ := ((HS.out.below HB.out).lie).byte hj
      rw [← hy, ← hqq] at hcell
      rw [← hr] at hbit
      obtain ⟨t, ht⟩ : ∃ t, t = y.toNat / 2 ^ r % 2 := ⟨_, rfl⟩
      have hand : bits .and .u8 ((y.toNat : Int) / 2 ^ r) 1 = (t : Int) := by
        have hyl := y.toNat_lt
        have h1 := u8_and_nat (y.toNat / 2 ^ r) 1 (Nat.lt_of_le_of_lt (Nat.div_le_self _ _) hyl) (by omega)
        rw [Nat.and_one_is_mod, ← ht] at h1
        rw [← h1]
        congr 1
      have ht2 : t < 2 := by omega
      rw [← ht] at hbit
      have HBIT := hid hbit; have HR := hid hr; have HQQ := hid hqq; have HC := hid hcell
      clear hP hPl hq hR hRl hmu hev hod hy hbit hr hqq ht hcell
      go_wp2_with (with_reducible refine wpList_load_row rfl ET (.tmp 5) rfl g rfl ET (eA P) (0, 0) _ H2.out Tryz.underlying80 rfl (infoEA _) ?_)
      refine (HQ.out _).mono ?_
      rintro e w1 ⟨rfl, hb⟩
      have hgl : g < w'.heap.size := block_lt H2.out
      have G0 := block_below hb (by omega) H0.out
      have G1 := block_below hb (by omega) H1.out
      have G2 := hid (block_below hb hgl H2.out)
      have K0 := hid ((setRow_other w1 g (w.heap.size) (eA R) (by omega)).trans G0)
      have K1 := hid ((setRow_other w1 g (w.heap.size + 1) (eA R) (by omega)).trans G1)
      have K2 := hid (setRow_heap w1 g (eA P) (eA R) ET (0, 0) G2.out)
      have KB := hid (belowRow (HB.out.trans (hb.mono (by omega))) (show w.heap.size ≤ g by omega) (eA R))
      have hc1 : (w1.setRow g (eA R)).cell? ⟨b, o + q, none⟩ = some (.int .u8 (y.toNat : Int)) := (World.cell?_of_block (a := ⟨b, o + q, none⟩) ((setRow_other w1 g b (eA R) (by omega)).trans (hb.block b (by have := HB.out.size; omega)))).trans HC.out
      clear hb G0 G1 H0 H1 H2 HB HC HQ
      by_cases ht1 : t = 1
      · have hbb : ((t : Int) == 1) = true := by rw [beq_iff_eq]; omega
        have HV := hid (HOD.out (by rw [← HBIT.out]; exact ht1))
        clear HOD HEV HBIT ht1
        go_wp2_with (first | (with_reducible refine wpList_store_row rfl ET (.tmp 5) _ rfl g (eA R) rfl rfl ET (eA P) G2.out (infoEA _) (sizeEA _ _) (oneEA _) ?_) | (with_reducible refine wpList_load_row rfl ET (.tmp 5) rfl g rfl ET (eA R) (0, 0) _ K2.out Tryz.underlying80 rfl (infoEA _) ?_) | (with_reducible refine wpList_load_row rfl ET (.tmp 2) rfl w.heap.size rfl ET (eA x) (0, 0) _ K0.out Tryz.underlying80 rfl (infoEA _) ?_))
        refine (HM.out _).mono ?_
        rw [HV.out]
        rintro e w2 ⟨rfl, hb⟩
        have hgl2 : g < (w1.setRow g (eA R)).heap.size := block_lt K2.out
        have L0 := hid ((setRow_other w2 g (w.heap.size) (eA (x ^ (leN xs / 2 ^ m) % pp)) (by omega)).trans (block_below hb (by omega) K0.out))
        have L1 := hid ((setRow_other w2 g (w.heap.size + 1) (eA (x ^ (leN xs / 2 ^ m) % pp)) (by omega)).trans (block_below hb (by omega) K1.out))
        have M2 := hid (block_below hb hgl2 K2.out)
        have L2 := hid (setRow_heap w2 g (eA R) (eA (x ^ (leN xs / 2 ^ m) % pp)) ET (0, 0) M2.out)
        have LB := hid (belowRow (KB.out.trans (hb.mono (by omega))) (show w.heap.size ≤ g by omega) (eA (x ^ (leN xs / 2 ^ m) % pp)))
        clear hb hc1
        go_wp2_with (with_reducible refine wpList_store_row rfl ET (.tmp 5) _ rfl g (eA (x ^ (leN xs / 2 ^ m) % pp)) rfl rfl ET (eA R) M2.out (infoEA _) (sizeEA _ _) (oneEA _) ?_)
        go_step3
        exact ⟨rfl, ⟨m, g, _, _, _, _, _, _, _, _, _, _, _, _, _, _, _, _, _, _, _, _, _, _, _, _, rfl, ⟨by omega, L0.out, L1.out, L2.out, hg, LB.out⟩⟩, by show (intOf (.int .i64 ((m : Nat) : Int))).toNat < (intOf (.int .i64 ((m + 1 : Nat) : Int))).toNat; simp [intOf]⟩
      · have hbb : ((t : Int) == 1) = false := by rw [beq_eq_false_iff_ne]; omega
        have HV := hid (HEV.out (by rw [← HBIT.out]; omega))
        clear HOD HEV HBIT ht1
        go_wp2_with (with_reducible refine wpList_store_row rfl ET (.tmp 5) _ rfl g (eA R) rfl rfl ET (eA P) G2.out (infoEA _) (sizeEA _ _) (oneEA _) ?_)
        go_step3
        exact ⟨rfl, ⟨m, g, _, _, _, _, _, _, _, _, _, _, _, _, _, _, _, _, _, _, _, _, _, _, _, _, rfl, ⟨by omega, K0.out, K1.out, by rw [← HV.out]; exact K2.out, hg, KB.out⟩⟩, by show (intOf (.int .i64 ((m : Nat) : Int))).toNat < (intOf (.int .i64 ((m + 1 : Nat) : Int))).toNat; simp [intOf]⟩
end
section
open Go.RowKit
set_option linter.unusedVariables false
set_option linter.unusedSimpArgs false
theorem store_run {W : World} {g n : Nat} (h : W.heap[g]? = some (.cells (eA n) ET (0, 0))) (m : Nat) : (storeCells ⟨g, 0, none⟩ (eA m).toList).run Tryz.prog W = .ok () (W.setRow g (eA m)) := by
  have h1 := run_storeCells_from (P := Tryz.prog) g ET (eA m).toList 0 (eA n) W h rfl (fun v hv => (Array.all_eq_true_iff_forall_mem.1 (oneEA m)) v (by simpa using hv))
  simpa using h1
/-- Two blocks: what came in, and a number. -/
def So (w wr : World) (X : Array Value) : Prop :=
  wr.heap[w.heap.size]? = some (.cells X ET (0, 0)) ∧ (∃ n, wr.heap[w.heap.size + 1]? = some (.cells (eA n) ET (0, 0))) ∧ Below w.heap.size w wr ∧ w.heap.size + 1 < wr.heap.size
theorem So.call {w wr w' : World} {X : Array Value} (h : So w wr X) (hb : Below wr.heap.size wr w') : So w w' X := by
  obtain ⟨h0, ⟨n, h1⟩, h4, h5⟩ := h
  exact ⟨block_below hb (by omega) h0, ⟨n, block_below hb (by omega) h1⟩, h4.trans (hb.mono (by omega)), by have := hb.size; omega⟩
theorem So.set {w wr : World} {X : Array Value} (h : So w wr X) (n : Nat) : So w (wr.setRow (w.heap.size + 1) (eA n)) X := by
  obtain ⟨h0, ⟨m, h1⟩, h4, h5⟩ := h
  exact ⟨(setRow_other _ _ _ _ (by omega)).trans h0, ⟨n, setRow_heap _ _ _ _ _ _ h1⟩, belowRow h4 (by omega) _, by rw [size_setRow]; exact h5⟩
theorem So.start (w : World) (X : Array Value) : So w ((w.alloc (.cells X ET)).alloc (.cells z4 ET)) X :=
  ⟨blkA (blkN rfl X ET) _, ⟨0, blkN (by simp) z4 ET⟩, ((Below.refl _ _).alloc (Nat.le_refl _) _).alloc (by simp) _, by simp⟩
theorem So.drew {w wr : World} {X : Array Value} (h : So w wr X) : So w wr.drew X := ⟨h.1, h.2.1, h.2.2.1.drew, h.2.2.2⟩
/-- The words of what came in, one by one. -/
theorem So.cells {w wr : World} {a b c d : Nat} (h : So w wr (e4 a b c d)) : wr.cell? ⟨w.heap.size, 0, none⟩ = some (.int .u64 (a : Int)) ∧ wr.cell? ⟨w.heap.size, 1, none⟩ = some (.int .u64 (b : Int)) ∧ wr.cell? ⟨w.heap.size, 2, none⟩ = some (.int .u64 (c : Int)) ∧ wr.cell? ⟨w.heap.size, 3, none⟩ = some (.int .u64 (d : Int)) ∧ So w wr (e4 a b c d) :=
  ⟨cell_of h.1 0 _ rfl, cell_of h.1 1 _ rfl, cell_of h.1 2 _ rfl, cell_of h.1 3 _ rfl, h⟩
theorem exp_inv : leN (expB 235 127) = pp - 2 := by decide +kernel
theorem exp_root : leN (expB 254 15) = (pp + 3) / 8 := by decide +kernel
set_option maxHeartbeats 1000000 in
theorem Inv_e (x : Nat) (w : World) (hx : x < pp) :
    Calls Tryz.prog 107 #[.agg (eA x)] w fun e w' => e = .returned (.agg (eA (x ^ (pp - 2) % pp))) ∧ Below w.heap.size w w' := by
  obtain ⟨a, b, c, d, ha, hb, hc, hd, hxv, ex⟩ := words x (pp_lt hx)
  have HE : Hid (∀ W, So w W (e4 a b c d) → Calls Tryz.prog 127 #[.int .u8 235, .int .u8 127] W fun e W' => ∃ A, e = .returned (.slice A 32 32) ∧ So w W' (e4 a b c d) ∧ Sq W' W'.heap.size A 32 (bvs (expB 235 127))) := hid fun W hS => by
    refine (exponent_e 235 127 W).mono ?_
    rintro e W' ⟨A, rfl, hq, hb⟩
    exact ⟨A, rfl, hS.call hb, hq⟩
  have HP : Hid (∀ W A, So w W (e4 a b c d) → Sq W W.heap.size A 32 (bvs (expB 235 127)) → Calls Tryz.prog 126 #[.agg (e4 a b c d), .slice A 32 32] W fun e W' => e = .returned (.agg (eA (x ^ (pp - 2) % pp))) ∧ So w W' (e4 a b c d)) := hid fun W A hS hq => by
    have h := Pow_e x A (expB 235 127) 32 W hx hq (by rw [expB_length]; omega)
    rw [ex] at h
    refine h.mono ?_
    rw [exp_inv]
    rintro e W' ⟨rfl, hb⟩
    exact ⟨rfl, hS.call hb⟩
  have hS0 := (So.start w (e4 a b c d)).drew
  obtain ⟨V, hV⟩ : ∃ V, V = x ^ (pp - 2) % pp := ⟨_, rfl⟩
  rw [← hV] at HP ⊢
  rw [ex]
  clear hV ha hb hc hd hxv ex hx
  go_enter Tryz.func107, Tryz.ntmps107
  go_wp2_with fail
  go_region_held3 (fun w' => w'.cell? ⟨w.heap.size, 0, none⟩ = some (.int .u64 (a : Int)) ∧ w'.cell? ⟨w.heap.size, 1, none⟩ = some (.int .u64 (b : Int)) ∧ w'.cell? ⟨w.heap.size, 2, none⟩ = some (.int .u64 (c : Int)) ∧ w'.cell? ⟨w.heap.size, 3, none⟩ = some (.int .u64 (d : Int)) ∧ So w w' (e4 a b c d))
    (first
      | exact hs3.cells
      | exact hs2.cells
      | exact hs1.cells
      | exact hS0.cells)
    (first
      | (go_at_call 127; refine (HE.out _ hS0).mono ?_; rintro e w1 ⟨A1, rfl, hs1, hq1⟩)
      | (go_at_call 126; refine (HP.out _ _ hs1 hq1).mono ?_; rintro e w2 ⟨rfl, hs2⟩; obtain ⟨n2, hz2⟩ := hs2.2.1; have hst := store_run hz2 V; have hs3 := hs2.set V))
  go_wp2
  refine bodyPost_ret (v := .agg (eA V)) (results_cell_row rfl _ _ (w.heap.size + 1) ET _ (0, 0) _ rfl (setRow_heap _ _ _ _ _ _ hz2) Tryz.underlying80 rfl (infoEA _)) rfl ⟨rfl, hs3.2.2.1⟩
end
end Go.Proofs.YtgehfbcagaaggaaGreatDoor
end
section
namespace Go.Proofs.YtgehfbcagaaggaaGreatDoor
section
open Go.RowKit
set_option linter.unusedVariables false
set_option linter.unusedSimpArgs false
theorem rootOfLast_e (w : World) :
    Calls Tryz.prog 130 #[] w fun e w' => e = .returned (.agg (eA ii)) ∧ Below w.heap.size w w' := by
  have h : eA ii = e4 14190309331451158704 3405592160176694392 3120150775007532967 3135389899092516619 := by
    rw [← eA_of _ _ _ _ (by omega) (by omega) (by omega) (by omega)]
    rfl
  go_enter Tryz.func130, Tryz.ntmps130
  go_wp2
  refine bodyPost_ret (v := .agg (e4 14190309331451158704 3405592160176694392 3120150775007532967 3135389899092516619)) (results_cell_row rfl _ _ w.heap.size ET _ (0, 0) _ rfl (blkN rfl _ _) Tryz.underlying80 rfl infoE) rfl ⟨by rw [h], ?_⟩
  exact (Below.refl _ _).alloc (Nat.le_refl _) _
end
section
open Go.RowKit
set_option linter.unusedVariables false
set_option linter.unusedSimpArgs false
/-- Three blocks: what came in, what goes out, and a number. -/
def Rt (w wr : World) (x g v : Nat) : Prop :=
  wr.heap[w.heap.size]? = some (.cells (eA x) ET (0, 0)) ∧ wr.heap[w.heap.size + 1]? = some (.cells z4 ET (0, 0)) ∧ wr.heap[g]? = some (.cells (eA v) ET (0, 0)) ∧ w.heap.size + 1 < g ∧ Below w.heap.size w wr
theorem Rt.call {w wr w' : World} {x g v : Nat} (h : Rt w wr x g v) (hb : Below wr.heap.size wr w') : Rt w w' x g v := by
  obtain ⟨h0, h1, h2, h3, h4⟩ := h
  have hg := block_lt h2
  exact ⟨block_below hb (by omega) h0, block_below hb (by omega) h1, block_below hb hg h2, h3, h4.trans (hb.mono (by omega))⟩
theorem Rt.set {w wr : World} {x g v : Nat} (h : Rt w wr x g v) (n : Nat) : Rt w (wr.setRow g (eA n)) x g n := by
  obtain ⟨h0, h1, h2, h3, h4⟩ := h
  exact ⟨(setRow_other _ _ _ _ (by omega)).trans h0, (setRow_other _ _ _ _ (by omega)).trans h1, setRow_heap _ _ _ _ _ _ h2, h3, belowRow h4 (by omega) _⟩
theorem Fo.drew {w wr : World} {X : Array Value} (h : Fo w wr X) : Fo w wr.drew X := ⟨h.1, h.2.1, h.2.2.1.drew, h.2.2.2⟩
theorem Fo.alloc {w wr : World} {X : Array Value} (h : Fo w wr X) (o : Obj) : Fo w (wr.alloc o) X := h.call ((Below.refl _ _).alloc (Nat.le_refl _) _)
theorem Fo.cells {w wr : World} {a b c d : Nat} (h : Fo w wr (e4 a b c d)) : wr.cell? ⟨w.heap.size, 0, none⟩ = some (.int .u64 (a : Int)) ∧ wr.cell? ⟨w.heap.size, 1, none⟩ = some (.int .u64 (b : Int)) ∧ wr.cell? ⟨w.heap.size, 2, none⟩ = some (.int .u64 (c : Int)) ∧ wr.cell? ⟨w.heap.size, 3, none⟩ = some (.int .u64 (d : Int)) ∧ Fo w wr (e4 a b c d) :=
  ⟨cell_of h.1 0 _ rfl, cell_of h.1 1 _ rfl, cell_of h.1 2 _ rfl, cell_of h.1 3 _ rfl, h⟩
theorem Fo.set {w wr : World} {X : Array Value} (h : Fo w wr X) {g : Nat} (hg : w.heap.size + 1 < g) (cs : Array Value) : Fo w (wr.setRow g cs) X := by
  obtain ⟨h0, h1, h4, h5⟩ := h
  exact ⟨(setRow_other _ _ _ _ (by omega)).trans h0, (setRow_other _ _ _ _ (by omega)).trans h1, belowRow h4 (by omega) _, by rw [size_setRow]; exact h5⟩
theorem Fo.rt {w wr : World} {a b c d x : Nat} (h : Fo w wr (e4 a b c d)) (hx : eA x = e4 a b c d) {g : Nat} {old : Array Value} (hz : wr.heap[g]? = some (.cells old ET (0, 0))) (hg : w.heap.size + 1 < g) (V : Nat) : Rt w (wr.setRow g (eA V)) x g V :=
  ⟨(h.set hg _).1.trans (by rw [hx]), (h.set hg _).2.1, setRow_heap _ _ _ _ _ _ hz, hg, (h.set hg _).2.2.1⟩
theorem infoZ : (Tryz.prog.info? 80).map (·.size) = some z4.size := infoE
theorem oneZ : z4.all (·.oneCell') = true := by simp [Value.oneCell']
theorem sq_alloc {W : World} {A : Option Addr} {c : Nat} {xs : List Value} (h : Sq W W.heap.size A c xs) (o : Obj) : Sq (W.alloc o) (W.alloc o).heap.size A c xs := (h.alloc (Nat.le_refl _) o).more (by simp)
theorem store_zrun {W : World} {g : Nat} (h : W.heap[g]? = some (.cells z4 ET (0, 0))) (m : Nat) : (storeCells ⟨g, 0, none⟩ (eA m).toList).run Tryz.prog W = .ok () (W.setRow g (eA m)) := store_run (n := 0) h m
/-- A cell and a slot as results. -/
theorem results_cell_tmp {fn : Func} {q p : Tmp} {ty : TypeId} (h : fn.results = #[.cell p ty, .tmp q]) (tmps : Array Value) (w : World) (a : Addr) (u v : Value) {P : Program}
    (hp : tmps.getD p undef = .pointer (some a)) (hv : tmps.getD q undef = v) (hl : (loadVar ty a).run P w = .ok u w) :
    (results fn tmps).run P w = .ok (.tuple #[u, v]) w := by
  have hv' : tmps[q]?.getD undef = v := by rw [← hv]; simp [Array.getD_eq_getD_getElem?]
  have hp' : tmps[p]?.getD undef = .pointer (some a) := by rw [← hp]; simp [Array.getD_eq_getD_getElem?]
  simp [results, h, hv', hp', asAddr, hl]
/-- What Root tells. -/
def rootN (x : Nat) : Nat := if rt2 x * rt2 x % pp = x then rt3 x else 0
set_option maxHeartbeats 2000000 in
theorem Root_e (x : Nat) (w : World) (hx : x < pp) :
    Calls Tryz.prog 113 #[.agg (eA x)] w fun e w' => e = .returned (.tuple #[.agg (eA (rootN x)), .bool (decide (rt2 x * rt2 x % pp = x))]) ∧ Below w.heap.size w w' := by
  obtain ⟨a, b, c, d, ha, hb, hc, hd, hxv, ex⟩ := words x (pp_lt hx)
  have HE : Hid (∀ W, Fo w W (e4 a b c d) → Calls Tryz.prog 127 #[.int .u8 254, .int .u8 15] W fun e W' => ∃ A, e = .returned (.slice A 32 32) ∧ Fo w W' (e4 a b c d) ∧ Sq W' W'.heap.size A 32 (bvs (expB 254 15)) ∧ Below W.heap.size W W') := hid fun W hS => by
    refine (exponent_e 254 15 W).mono ?_
    rintro e W' ⟨A, rfl, hq, hb⟩
    exact ⟨A, rfl, hS.call hb, hq, hb⟩
  have HP : Hid (∀ W A, Fo w W (e4 a b c d) → Sq W W.heap.size A 32 (bvs (expB 254 15)) → Calls Tryz.prog 126 #[.agg (e4 a b c d), .slice A 32 32] W fun e W' => e = .returned (.agg (eA (rt1 x))) ∧ Fo w W' (e4 a b c d) ∧ Below W.heap.size W W') := hid fun W A hS hq => by
    have h := Pow_e x A (expB 254 15) 32 W hx hq (by rw [expB_length]; omega)
    rw [ex] at h
    refine h.mono ?_
    rw [exp_root]
    rintro e W' ⟨rfl, hb⟩
    exact ⟨rfl, hS.call hb, hb⟩
  have hS0 := Fo.start w (e4 a b c d)
  obtain ⟨V, hV⟩ : ∃ V, V = rt1 x := ⟨_, rfl⟩
  have hVl : V < pp := by rw [hV]; exact rt1_lt x
  rw [← hV] at HP
  have hr2 : rt2 x = if V * V % pp = x then V else V * ii % pp := by unfold rt2; rw [← hV]
  have HV := hid hV; have HR2 := hid hr2; have HX := hid ex
  obtain ⟨U, hU⟩ : ∃ U, U = rootN x := ⟨_, rfl⟩
  obtain ⟨D, hD⟩ : ∃ D, D = decide (rt2 x * rt2 x % pp = x) := ⟨_, rfl⟩
  rw [← hU, ← hD, ex]
  have HU := hid hU; have HD := hid hD
  clear hV ha hb hc hd hxv ex hr2 hU hD
  go_enter Tryz.func113, Tryz.ntmps113
  go_wp2_with fail
  refine Code.wp_mono (Q := fun e a' w' => e = .normal ∧ ∃ (g : Nat) (u5 u6 u7 : Value), a' = { tmps := #[.agg (e4 a b c d), .pointer (some ⟨w.heap.size, 0, none⟩), .pointer (some ⟨w.heap.size + 1, 0, none⟩), .bool false, .pointer (some ⟨g, 0, none⟩), u5, u6, u7, undef, undef, undef, undef, undef, undef, undef, undef, undef, undef, undef, undef, undef, undef, undef, undef, undef, undef, undef], defers := [] } ∧ Rt w w' x g V) ?rest ?_
  case rest =>
    rintro e a' w' ⟨rfl, g, u5, u6, u7, rfl, hRt⟩
    have F := hid hRt
    clear hRt hS0 HE HP
    go_wp2_with fail
    obtain ⟨R, hR⟩ : ∃ R, R = V * V % pp := ⟨_, rfl⟩
    have HN2 := hid hR
    by_cases hs : R = x
    · have SE2 := hid (decide_eq_true hs)
      have hs2 : V * V % pp = x := by rw [← hR]; exact hs
      have HV2 := hid (HR2.out.trans (by rw [if_pos hs2]))
      have HS := hid hs2
      have SE3 := SE2
      have HN3 := HN2
      clear hR hs hs2
      have Q2 : Hid (∀ W, Below w'.heap.size w' W → Calls Tryz.prog 111 #[.agg (eA V)] W fun e W2 => e = .returned (.agg (eA R)) ∧ Below w'.heap.size w' W2) := hid fun W hW =>
        (Square_e V W hVl).mono fun e W2 h => ⟨h.1.trans (by rw [HN2.out]), hW.trans (h.2.mono hW.size)⟩
      have S2 : Hid (∀ W, Below w'.heap.size w' W → Calls Tryz.prog 87 #[.agg (eA R), .agg (eA x)] W fun e W2 => e = .returned (.bool true) ∧ Below w'.heap.size w' W2) := hid fun W hW =>
        (Same_e R x W (by rw [HN2.out]; exact Nat.mod_lt _ pp_pos) hx).mono fun e W2 h => ⟨h.1.trans (by rw [SE2.out]), hW.trans (h.2.mono hW.size)⟩
      refine wp_region_grown (by kernel_rfl) (by kernel_rfl) ?_
      refine quiet_row rfl ET (.tmp 4) rfl g rfl ET (eA V) (0, 0) _ (fun _ h => (F.out.call h).2.2.1) Tryz.underlying80 rfl (infoEA _) ?_
      refine wpQuiet_step (fun K hK => ?_)
      go_simp
      refine ⟨_, Q2.out, hK _ ?_⟩
      clear hK K
      refine quiet_row rfl ET (.tmp 1) rfl w.heap.size rfl ET (eA x) (0, 0) _ (fun _ h => (F.out.call h).1) Tryz.underlying80 rfl (infoEA _) ?_
      refine wpQuiet_step (fun K hK => ?_)
      go_simp
      refine ⟨_, S2.out, hK _ ?_⟩
      clear hK K
      refine quiet_val rfl (.bool false) (fun _ _ => rfl) ?_
      refine wpQuiet_nil ?_
      intro w2 hb
      have F2 := hid (F.out.call hb)
      clear hb F Q2 S2 SE2
      go_wp2_with fail
      have Q3 : Hid (∀ W, Below w2.heap.size w2 W → Calls Tryz.prog 111 #[.agg (eA V)] W fun e W2 => e = .returned (.agg (eA R)) ∧ Below w2.heap.size w2 W2) := hid fun W hW =>
        (Square_e V W hVl).mono fun e W2 h => ⟨h.1.trans (by rw [HN3.out]), hW.trans (h.2.mono hW.size)⟩
      have S3 : Hid (∀ W, Below w2.heap.size w2 W → Calls Tryz.prog 87 #[.agg (eA R), .agg (eA x)] W fun e W2 => e = .returned (.bool true) ∧ Below w2.heap.size w2 W2) := hid fun W hW =>
        (Same_e R x W (by rw [HN3.out]; exact Nat.mod_lt _ pp_pos) hx).mono fun e W2 h => ⟨h.1.trans (by rw [SE3.out]), hW.trans (h.2.mono hW.size)⟩
      refine wp_region_grown (by kernel_rfl) (by kernel_rfl) ?_
      refine quiet_row rfl ET (.tmp 4) rfl g rfl ET (eA V) (0, 0) _ (fun _ h => (F2.out.call h).2.2.1) Tryz.underlying80 rfl (infoEA _) ?_
      refine wpQuiet_step (fun K hK => ?_)
      go_simp
      refine ⟨_, Q3.out, hK _ ?_⟩
      clear hK K
      refine quiet_row rfl ET (.tmp 1) rfl w.heap.size rfl ET (eA x) (0, 0) _ (fun _ h => (F2.out.call h).1) Tryz.underlying80 rfl (infoEA _) ?_
      refine wpQuiet_step (fun K hK => ?_)
      go_simp
      refine ⟨_, S3.out, hK _ ?_⟩
      clear hK K
      refine quiet_val rfl (.bool false) (fun _ _ => rfl) ?_
      refine wpQuiet_nil ?_
      intro w3 hb
      have F3 := hid (F2.out.call hb)
      clear hb F2 Q3 S3 SE3
      have HD2 : Hid (D = true) := hid (by rw [HD.out, decide_eq_true_eq, HV2.out]; exact HS.out)
      have HU2 : Hid (U = if V % 2 = 1 then (pp - V) % pp else V) := hid (by rw [HU.out]; unfold rootN rt3; rw [HV2.out, if_pos HS.out])
      have L := hid F3.out.2.2.1
      have O := hid (fun W => Odd_e V W hVl)
      by_cases ho : V % 2 = 1
      · have HO := hid (decide_eq_true ho)
        have HU3 := hid (HU2.out.trans (if_pos ho))
        clear ho HU2
        go_wp2_with (with_reducible refine wpList_load_row rfl ET (.tmp 4) rfl (g) rfl ET (eA V) (0, 0) _ L.out Tryz.underlying80 rfl (infoEA _) ?_)
        refine (O.out _).mono ?_
        rw [HO.out]
        rintro e wo ⟨rfl, hb⟩
        have FO := hid (F3.out.call hb)
        have NG := hid (fun W => Neg_e V W hVl)
        obtain ⟨N, hN⟩ : ∃ N, N = (pp - V) % pp := ⟨_, rfl⟩
        rw [← hN] at NG HU3
        clear hb F3 O L hN HO
        have L := hid FO.out.2.2.1
        go_wp2_with (with_reducible refine wpList_load_row rfl ET (.tmp 4) rfl (g) rfl ET (eA V) (0, 0) _ L.out Tryz.underlying80 rfl (infoEA _) ?_)
        refine (NG.out _).mono ?_
        rintro e wn ⟨rfl, hb⟩
        have FN := hid (FO.out.call hb)
        clear hb FO L NG
        have L2 := hid FN.out.2.2.1
        have FR := hid (FN.out.set N)
        have L3 := hid FR.out.2.2.1
        have Z := hid FR.out.2.1
        go_wp2_with (first | (with_reducible refine wpList_store_row rfl ET (.tmp 4) _ rfl (g) (eA N) rfl rfl ET (eA V) L2.out (infoEA _) (sizeEA _ _) (oneEA _) ?_) | (with_reducible refine wpList_load_row rfl ET (.tmp 4) rfl (g) rfl ET (eA N) (0, 0) _ L3.out Tryz.underlying80 rfl (infoEA _) ?_) | (with_reducible refine wpList_store_row rfl ET (.tmp 2) _ rfl (w.heap.size + 1) (eA N) rfl rfl ET z4 Z.out (infoEA _) (sizeZA _) (oneEA _) ?_))
        refine bodyPost_ret (v := .tuple #[.agg (eA N), .bool true]) (results_cell_tmp rfl _ _ ⟨w.heap.size + 1, 0, none⟩ _ _ rfl rfl (run_loadVar_row _ _ ET ET _ (0, 0) _ (setRow_heap _ _ _ _ _ _ Z.out) Tryz.underlying80 rfl (infoEA _))) rfl ⟨by rw [HU3.out, HD2.out], ?_⟩
        exact belowRow FR.out.2.2.2.2 (by omega) _
      · have HO := hid (decide_eq_false ho)
        have HU3 := hid (HU2.out.trans (if_neg ho))
        clear ho HU2
        go_wp2_with (with_reducible refine wpList_load_row rfl ET (.tmp 4) rfl (g) rfl ET (eA V) (0, 0) _ L.out Tryz.underlying80 rfl (infoEA _) ?_)
        refine (O.out _).mono ?_
        rw [HO.out]
        rintro e wo ⟨rfl, hb⟩
        have FO := hid (F3.out.call hb)
        clear hb F3 O L HO
        have L := hid FO.out.2.2.1
        have Z := hid FO.out.2.1
        go_wp2_with (first | (with_reducible refine wpList_load_row rfl ET (.tmp 4) rfl (g) rfl ET (eA V) (0, 0) _ L.out Tryz.underlying80 rfl (infoEA _) ?_) | (with_reducible refine wpList_store_row rfl ET (.tmp 2) _ rfl (w.heap.size + 1) (eA V) rfl rfl ET z4 Z.out (infoEA _) (sizeZA _) (oneEA _) ?_))
        refine bodyPost_ret (v := .tuple #[.agg (eA V), .bool true]) (results_cell_tmp rfl _ _ ⟨w.heap.size + 1, 0, none⟩ _ _ rfl rfl (run_loadVar_row _ _ ET ET _ (0, 0) _ (setRow_heap _ _ _ _ _ _ Z.out) Tryz.underlying80 rfl (infoEA _))) rfl ⟨by rw [HU3.out, HD2.out], ?_⟩
        exact belowRow FO.out.2.2.2.2 (by omega) _
    · have SE2 := hid (decide_eq_false hs)
      have hs2 : ¬ V * V % pp = x := by rw [← hR]; exact hs
      obtain ⟨V2, hV2⟩ : ∃ V2, V2 = V * ii % pp := ⟨_, rfl⟩
      have HV2 := hid (HR2.out.trans (by rw [if_neg hs2, ← hV2]))
      have hV2l : V2 < pp := by rw [hV2]; exact Nat.mod_lt _ pp_pos
      have MU : Hid (∀ W, Calls Tryz.prog 108 #[.agg (eA V), .agg (eA ii)] W fun e W2 => e = .returned (.agg (eA V2)) ∧ Below W.heap.size W W2) := hid fun W => by
        rw [hV2]; exact Mul_e V ii W hVl ii_lt
      clear hR hs hs2 hV2
      have Q2 : Hid (∀ W, Below w'.heap.size w' W → Calls Tryz.prog 111 #[.agg (eA V)] W fun e W2 => e = .returned (.agg (eA R)) ∧ Below w'.heap.size w' W2) := hid fun W hW =>
        (Square_e V W hVl).mono fun e W2 h => ⟨h.1.trans (by rw [HN2.out]), hW.trans (h.2.mono hW.size)⟩
      have S2 : Hid (∀ W, Below w'.heap.size w' W → Calls Tryz.prog 87 #[.agg (eA R), .agg (eA x)] W fun e W2 => e = .returned (.bool false) ∧ Below w'.heap.size w' W2) := hid fun W hW =>
        (Same_e R x W (by rw [HN2.out]; exact Nat.mod_lt _ pp_pos) hx).mono fun e W2 h => ⟨h.1.trans (by rw [SE2.out]), hW.trans (h.2.mono hW.size)⟩
      refine wp_region_grown (by kernel_rfl) (by kernel_rfl) ?_
      refine quiet_row rfl ET (.tmp 4) rfl g rfl ET (eA V) (0, 0) _ (fun _ h => (F.out.call h).2.2.1) Tryz.underlying80 rfl (infoEA _) ?_
      refine wpQuiet_step (fun K hK => ?_)
      go_simp
      refine ⟨_, Q2.out, hK _ ?_⟩
      clear hK K
      refine quiet_row rfl ET (.tmp 1) rfl w.heap.size rfl ET (eA x) (0, 0) _ (fun _ h => (F.out.call h).1) Tryz.underlying80 rfl (infoEA _) ?_
      refine wpQuiet_step (fun K hK => ?_)
      go_simp
      refine ⟨_, S2.out, hK _ ?_⟩
      clear hK K
      refine quiet_val rfl (.bool true) (fun _ _ => rfl) ?_
      refine wpQuiet_nil ?_
      intro w2 hb
      have F2 := hid (F.out.call hb)
      clear hb F Q2 S2 SE2
      go_wp2_with fail
      have RL : Hid (∀ W, Below w2.heap.size w2 W → Calls Tryz.prog 130 #[] W fun e W2 => e = .returned (.agg (eA ii)) ∧ Below w2.heap.size w2 W2) := hid fun W hW =>
        (rootOfLast_e W).mono fun e W2 h => ⟨h.1, hW.trans (h.2.mono hW.size)⟩
      have MU2 : Hid (∀ W, Below w2.heap.size w2 W → Calls Tryz.prog 108 #[.agg (eA V), .agg (eA ii)] W fun e W2 => e = .returned (.agg (eA V2)) ∧ Below w2.heap.size w2 W2) := hid fun W hW =>
        (MU.out W).mono fun e W2 h => ⟨h.1, hW.trans (h.2.mono hW.size)⟩
      refine wp_region_grown_tail 3 (by kernel_rfl) (by kernel_rfl) ?_
      refine quiet_row rfl ET (.tmp 4) rfl g rfl ET (eA V) (0, 0) _ (fun _ h => (F2.out.call h).2.2.1) Tryz.underlying80 rfl (infoEA _) ?_
      refine wpQuiet_step (fun K hK => ?_)
      go_simp
      refine ⟨_, RL.out, hK _ ?_⟩
      clear hK K
      refine wpQuiet_step (fun K hK => ?_)
      go_simp
      refine ⟨_, MU2.out, hK _ ?_⟩
      clear hK K
      refine wpQuiet_nil ?_
      intro w4 hb
      have F4 := hid (F2.out.call hb)
      clear hb F2 RL MU2 MU
      simp only [List.drop_succ_cons, List.drop_zero]
      have L4 := hid F4.out.2.2.1
      have F5 := hid (F4.out.set V2)
      go_wp2_with (with_reducible refine wpList_store_row rfl ET (.tmp 4) _ rfl (g) (eA V2) rfl rfl ET (eA V) L4.out (infoEA _) (sizeEA _ _) (oneEA _) ?_)
      clear F4 L4
      generalize w4.setRow g (eA V2) = w5 at *
      obtain ⟨R2, hR2⟩ : ∃ R, R = V2 * V2 % pp := ⟨_, rfl⟩
      have HN3 := hid hR2
      by_cases hs : R2 = x
      · have SE3 := hid (decide_eq_true hs)
        have hs2 : V2 * V2 % pp = x := by rw [← hR2]; exact hs
        have HS := hid hs2
        clear hR2 hs hs2
        have Q3 : Hid (∀ W, Below w5.heap.size w5 W → Calls Tryz.prog 111 #[.agg (eA V2)] W fun e W2 => e = .returned (.agg (eA R2)) ∧ Below w5.heap.size w5 W2) := hid fun W hW =>
          (Square_e V2 W hV2l).mono fun e W2 h => ⟨h.1.trans (by rw [HN3.out]), hW.trans (h.2.mono hW.size)⟩
        have S3 : Hid (∀ W, Below w5.heap.size w5 W → Calls Tryz.prog 87 #[.agg (eA R2), .agg (eA x)] W fun e W2 => e = .returned (.bool true) ∧ Below w5.heap.size w5 W2) := hid fun W hW =>
          (Same_e R2 x W (by rw [HN3.out]; exact Nat.mod_lt _ pp_pos) hx).mono fun e W2 h => ⟨h.1.trans (by rw [SE3.out]), hW.trans (h.2.mono hW.size)⟩
        refine wp_region_grown (by kernel_rfl) (by kernel_rfl) ?_
        refine quiet_row rfl ET (.tmp 4) rfl g rfl ET (eA V2) (0, 0) _ (fun _ h => (F5.out.call h).2.2.1) Tryz.underlying80 rfl (infoEA _) ?_
        refine wpQuiet_step (fun K hK => ?_)
        go_simp
        refine ⟨_, Q3.out, hK _ ?_⟩
        clear hK K
        refine quiet_row rfl ET (.tmp 1) rfl w.heap.size rfl ET (eA x) (0, 0) _ (fun _ h => (F5.out.call h).1) Tryz.underlying80 rfl (infoEA _) ?_
        refine wpQuiet_step (fun K hK => ?_)
        go_simp
        refine ⟨_, S3.out, hK _ ?_⟩
        clear hK K
        refine quiet_val rfl (.bool false) (fun _ _ => rfl) ?_
        refine wpQuiet_nil ?_
        intro w3 hb
        have F3 := hid (F5.out.call hb)
        clear hb F5 Q3 S3 SE3
        have HD2 : Hid (D = true) := hid (by rw [HD.out, decide_eq_true_eq, HV2.out]; exact HS.out)
        have HU2 : Hid (U = if V2 % 2 = 1 then (pp - V2) % pp else V2) := hid (by rw [HU.out]; unfold rootN rt3; rw [HV2.out, if_pos HS.out])
        have L := hid F3.out.2.2.1
        have O := hid (fun W => Odd_e V2 W hV2l)
        by_cases ho : V2 % 2 = 1
        · have HO := hid (decide_eq_true ho)
          have HU3 := hid (HU2.out.trans (if_pos ho))
          clear ho HU2
          go_wp2_with (with_reducible refine wpList_load_row rfl ET (.tmp 4) rfl (g) rfl ET (eA V2) (0, 0) _ L.out Tryz.underlying80 rfl (infoEA _) ?_)
          refine (O.out _).mono ?_
          rw [HO.out]
          rintro e wo ⟨rfl, hb⟩
          have FO := hid (F3.out.call hb)
          have NG := hid (fun W => Neg_e V2 W hV2l)
          obtain ⟨N, hN⟩ : ∃ N, N = (pp - V2) % pp := ⟨_, rfl⟩
          rw [← hN] at NG HU3
          clear hb F3 O L hN HO
          have L := hid FO.out.2.2.1
          go_wp2_with (with_reducible refine wpList_load_row rfl ET (.tmp 4) rfl (g) rfl ET (eA V2) (0, 0) _ L.out Tryz.underlying80 rfl (infoEA _) ?_)
          refine (NG.out _).mono ?_
          rintro e wn ⟨rfl, hb⟩
          have FN := hid (FO.out.call hb)
          clear hb FO L NG
          have L2 := hid FN.out.2.2.1
          have FR := hid (FN.out.set N)
          have L3 := hid FR.out.2.2.1
          have Z := hid FR.out.2.1
          go_wp2_with (first | (with_reducible refine wpList_store_row rfl ET (.tmp 4) _ rfl (g) (eA N) rfl rfl ET (eA V2) L2.out (infoEA _) (sizeEA _ _) (oneEA _) ?_) | (with_reducible refine wpList_load_row rfl ET (.tmp 4) rfl (g) rfl ET (eA N) (0, 0) _ L3.out Tryz.underlying80 rfl (infoEA _) ?_) | (with_reducible refine wpList_store_row rfl ET (.tmp 2) _ rfl (w.heap.size + 1) (eA N) rfl rfl ET z4 Z.out (infoEA _) (sizeZA _) (oneEA _) ?_))
          refine bodyPost_ret (v := .tuple #[.agg (eA N), .bool true]) (results_cell_tmp rfl _ _ ⟨w.heap.size + 1, 0, none⟩ _ _ rfl rfl (run_loadVar_row _ _ ET ET _ (0, 0) _ (setRow_heap _ _ _ _ _ _ Z.out) Tryz.underlying80 rfl (infoEA _))) rfl ⟨by rw [HU3.out, HD2.out], ?_⟩
          exact belowRow FR.out.2.2.2.2 (by omega) _
        · have HO := hid (decide_eq_false ho)
          have HU3 := hid (HU2.out.trans (if_neg ho))
          clear ho HU2
          go_wp2_with (with_reducible refine wpList_load_row rfl ET (.tmp 4) rfl (g) rfl ET (eA V2) (0, 0) _ L.out Tryz.underlying80 rfl (infoEA _) ?_)
          refine (O.out _).mono ?_
          rw [HO.out]
          rintro e wo ⟨rfl, hb⟩
          have FO := hid (F3.out.call hb)
          clear hb F3 O L HO
          have L := hid FO.out.2.2.1
          have Z := hid FO.out.2.1
          go_wp2_with (first | (with_reducible refine wpList_load_row rfl ET (.tmp 4) rfl (g) rfl ET (eA V2) (0, 0) _ L.out Tryz.underlying80 rfl (infoEA _) ?_) | (with_reducible refine wpList_store_row rfl ET (.tmp 2) _ rfl (w.heap.size + 1) (eA V2) rfl rfl ET z4 Z.out (infoEA _) (sizeZA _) (oneEA _) ?_))
          refine bodyPost_ret (v := .tuple #[.agg (eA V2), .bool true]) (results_cell_tmp rfl _ _ ⟨w.heap.size + 1, 0, none⟩ _ _ rfl rfl (run_loadVar_row _ _ ET ET _ (0, 0) _ (setRow_heap _ _ _ _ _ _ Z.out) Tryz.underlying80 rfl (infoEA _))) rfl ⟨by rw [HU3.out, HD2.out], ?_⟩
          exact belowRow FO.out.2.2.2.2 (by omega) _
      · have SE3 := hid (decide_eq_false hs)
        have hs2 : ¬ V2 * V2 % pp = x := by rw [← hR2]; exact hs
        have HD2 : Hid (D = false) := hid (by rw [HD.out, decide_eq_false_iff_not, HV2.out]; exact hs2)
        have HU2 : Hid (U = 0) := hid (by rw [HU.out]; unfold rootN; rw [HV2.out, if_neg hs2])
        clear hR2 hs hs2
        have Q3 : Hid (∀ W, Below w5.heap.size w5 W → Calls Tryz.prog 111 #[.agg (eA V2)] W fun e W2 => e = .returned (.agg (eA R2)) ∧ Below w5.heap.size w5 W2) := hid fun W hW =>
          (Square_e V2 W hV2l).mono fun e W2 h => ⟨h.1.trans (by rw [HN3.out]), hW.trans (h.2.mono hW.size)⟩
        have S3 : Hid (∀ W, Below w5.heap.size w5 W → Calls Tryz.prog 87 #[.agg (eA R2), .agg (eA x)] W fun e W2 => e = .returned (.bool false) ∧ Below w5.heap.size w5 W2) := hid fun W hW =>
          (Same_e R2 x W (by rw [HN3.out]; exact Nat.mod_lt _ pp_pos) hx).mono fun e W2 h => ⟨h.1.trans (by rw [SE3.out]), hW.trans (h.2.mono hW.size)⟩
        refine wp_region_grown (by kernel_rfl) (by kernel_rfl) ?_
        refine quiet_row rfl ET (.tmp 4) rfl g rfl ET (eA V2) (0, 0) _ (fun _ h => (F5.out.call h).2.2.1) Tryz.underlying80 rfl (infoEA _) ?_
        refine wpQuiet_step (fun K hK => ?_)
        go_simp
        refine ⟨_, Q3.out, hK _ ?_⟩
        clear hK K
        refine quiet_row rfl ET (.tmp 1) rfl w.heap.size rfl ET (eA x) (0, 0) _ (fun _ h => (F5.out.call h).1) Tryz.underlying80 rfl (infoEA _) ?_
        refine wpQuiet_step (fun K hK => ?_)
        go_simp
        refine ⟨_, S3.out, hK _ ?_⟩
        clear hK K
        refine quiet_val rfl (.bool true) (fun _ _ => rfl) ?_
        refine wpQuiet_nil ?_
        intro w3 hb
        have F3 := hid (F5.out.call hb)
        clear hb F5 Q3 S3 SE3
        have Z := hid F3.out.2.1
        go_wp2_with (with_reducible refine wpList_store_row rfl ET (.tmp 2) _ rfl (w.heap.size + 1) z4 rfl rfl ET z4 Z.out infoZ rfl oneZ ?_)
        refine bodyPost_ret (v := .tuple #[.agg (eA 0), .bool false]) (results_cell_tmp rfl _ _ ⟨w.heap.size + 1, 0, none⟩ _ _ rfl rfl (run_loadVar_row _ _ ET ET _ (0, 0) _ (setRow_heap _ _ _ _ _ _ Z.out) Tryz.underlying80 rfl (infoEA _))) rfl ⟨by rw [HU2.out, HD2.out], ?_⟩
        exact belowRow F3.out.2.2.2.2 (by omega) _
  have hSd := hS0.drew
  go_region_held3 (fun w' => w'.cell? ⟨w.heap.size, 0, none⟩ = some (.int .u64 (a : Int)) ∧ w'.cell? ⟨w.heap.size, 1, none⟩ = some (.int .u64 (b : Int)) ∧ w'.cell? ⟨w.heap.size, 2, none⟩ = some (.int .u64 (c : Int)) ∧ w'.cell? ⟨w.heap.size, 3, none⟩ = some (.int .u64 (d : Int)) ∧ Fo w w' (e4 a b c d))
    (first
      | exact ((hs2.alloc _).set (by have := hs2.2.2.2; omega) _).cells
      | exact (hs2.set (by have := hs1.2.2.2; first | omega | (simp; omega)) _).cells
      | exact hs2.cells
      | exact (hs2.alloc _).cells
      | exact hs1.cells
      | exact (hs1.alloc _).cells
      | exact hSd.cells
      | exact (hSd.alloc _).cells)
    (first
      | (go_at_call 127; refine (HE.out _ (by first | exact hSd | exact hSd.alloc _)).mono ?_; rintro e w1 ⟨A1, rfl, hs1, hq1, hb1⟩; try (have hz1 := block_below hb1 (by simp) (heap_alloc_new _ _)))
      | (go_at_call 126; refine (HP.out _ _ (by first | exact hs1 | exact hs1.alloc _) (by first | exact hq1 | exact sq_alloc hq1 _)).mono ?_; rintro e w2 ⟨rfl, hs2, hb2⟩; (first | have hz2 := block_below hb2 (block_lt hz1) hz1 | have hz2 := block_below hb2 (by simp) (heap_alloc_new _ _) | skip); (try (have hst := store_zrun hz2 V)); (try (have hz3 : w2.heap[w.heap.size + 1 + 1]? = some (.cells z4 ET (0, 0)) := by simpa using hz2)); (try (have hst3 := store_zrun hz3 V)); have hstA := store_zrun (heap_alloc_new w2 (.cells z4 ET)) V))
  · exact ⟨rfl, w2.heap.size, _, _, _, rfl, Fo.rt (hs2.alloc _) HX.out (heap_alloc_new _ _) (by have := hs2.2.2.2; omega) V⟩
  · exact ⟨rfl, w1.heap.size, _, _, _, rfl, Fo.rt hs2 HX.out hz2 (by have := hs1.2.2.2; omega) V⟩
  · exact ⟨rfl, w.heap.size + 1 + 1, _, _, _, rfl, Fo.rt hs2 HX.out hz3 (by omega) V⟩
end
end Go.Proofs.YtgehfbcagaaggaaGreatDoor
end
