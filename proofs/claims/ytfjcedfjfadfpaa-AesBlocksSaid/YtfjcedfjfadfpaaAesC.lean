/-
  Package aes: rows turned, columns put through the box.
-/
import Derived.Test.YtfjcedfjfadfpaaAesB
namespace Go.Proofs.Ytfjcedfjfadfpaa
open Go.RowKit
set_option linter.unusedVariables false
set_option linter.unusedSimpArgs false

set_option maxHeartbeats 1000000 in
theorem turned_any (S : Nat → Nat) (w : World) (hS : ∀ i, S i < 256) :
    Calls Try.prog 28 #[.agg (qF (col S))] w fun e w' => e = .returned (.agg (qF (col (tur S)))) ∧ Below w.heap.size w w' := by
  have HS := hid hS
  clear hS
  go_enter Try.func28, Try.ntmps28
  go_wp2
  rw [← qF_zero]
  have h0 : (((w.alloc (.cells (qF (col S)) SQT)).alloc (.cells (qF fun _ => 0) SQT)).alloc (.cells (qF fun _ => 0) SQT)).heap[w.heap.size]? = some (.cells (qF (col S)) SQT (0, 0)) := blkA (blkA (blkN rfl _ _) _) _
  have h1 : (((w.alloc (.cells (qF (col S)) SQT)).alloc (.cells (qF fun _ => 0) SQT)).alloc (.cells (qF fun _ => 0) SQT)).heap[w.heap.size + 1]? = some (.cells (qF fun _ => 0) SQT (0, 0)) := blkA (blkN (by simp) _ _) _
  have h2 : (((w.alloc (.cells (qF (col S)) SQT)).alloc (.cells (qF fun _ => 0) SQT)).alloc (.cells (qF fun _ => 0) SQT)).heap[w.heap.size + 1 + 1]? = some (.cells (qF (col (cut (tur S) 0))) SQT (0, 0)) := (blkN (by simp) _ _).trans (by
    have e : qF (fun _ => 0) = qF (col (cut (tur S) 0)) := qF_congr fun k _ => (cut_zero _ k).symm
    rw [e])
  have hb : Below w.heap.size w (((w.alloc (.cells (qF (col S)) SQT)).alloc (.cells (qF fun _ => 0) SQT)).alloc (.cells (qF fun _ => 0) SQT)) :=
    (((Below.refl _ _).alloc (Nat.le_refl _) _).alloc (by simp) _).alloc (by simp; omega) _
  have H0 := hid h0; have H1 := hid h1; have H2 := hid h2; have HB := hid hb
  clear h0 h1 h2 hb
  generalize ((w.alloc (.cells (qF (col S)) SQT)).alloc (.cells (qF fun _ => 0) SQT)).alloc (.cells (qF fun _ => 0) SQT) = w0 at *
  go_loopg [6] 4 (fun r c wr => ∃ i : Nat, i + r = 4 ∧ c = .int .i64 (i : Int) ∧ wr.heap[w.heap.size]? = some (.cells (qF (col S)) SQT (0, 0)) ∧ wr.heap[w.heap.size + 1]? = some (.cells (qF fun _ => 0) SQT (0, 0)) ∧
    wr.heap[w.heap.size + 1 + 1]? = some (.cells (qF (col (cut (tur S) (4 * i)))) SQT (0, 0)) ∧ Below w.heap.size w wr)
  case atStart => exact ⟨0, rfl, rfl, H0.out, H1.out, H2.out, HB.out⟩
  case round =>
    clear H0 H1 H2 HB
    obtain ⟨i, hi, rfl, h0, h1, h2, hb⟩ := hrel
    obtain ⟨wo, rfl⟩ : ∃ wo : World, wo = wr := ⟨_, rfl⟩
    have H0 := hid h0; have H1 := hid h1; have H2 := hid h2; have HB := hid hb; have HI := hid hi
    have hi4 : i ≤ 4 := by omega
    clear h0 h1 h2 hb hi
    by_cases hlt : i < 4
    · have hxi : (i : Int) < 4 := by omega
      have hi0 : (0 : Int) ≤ (i : Int) := by omega
      go_wp2
      go_loopg [9] 4 (fun g c wr => ∃ j : Nat, j + g = 4 ∧ c = .int .i64 (j : Int) ∧ wr.heap[w.heap.size]? = some (.cells (qF (col S)) SQT (0, 0)) ∧ wr.heap[w.heap.size + 1]? = some (.cells (qF fun _ => 0) SQT (0, 0)) ∧
        wr.heap[w.heap.size + 1 + 1]? = some (.cells (qF (col (cut (tur S) (4 * i + j)))) SQT (0, 0)) ∧ Below w.heap.size w wr)
      case atStart => exact ⟨0, rfl, rfl, H0.out, H1.out, H2.out, HB.out⟩
      case round =>
        clear H0 H1 H2 HB
        obtain ⟨j, hj, rfl, h0, h1, h2, hb⟩ := hrel
        have H0 := hid h0; have H1 := hid h1; have H2 := hid h2; have HB := hid hb; have HJ := hid hj
        have hj4 : j ≤ 4 := by omega
        clear h0 h1 h2 hb hj
        by_cases hlt2 : j < 4
        · have hxj : (j : Int) < 4 := by omega
          have hj0 : (0 : Int) ≤ (j : Int) := by omega
          obtain ⟨m, hm⟩ : ∃ m, m = i + j := ⟨_, rfl⟩
          obtain ⟨r, hr⟩ : ∃ r, r = m % 4 := ⟨_, rfl⟩
          obtain ⟨s, hs⟩ : ∃ s, s = 8 * j := ⟨_, rfl⟩
          obtain ⟨hr1, hr2, hrw⟩ := rem4 hr (by omega)
          have hmw : IntKind.i64.wrap ((i : Int) + (j : Int)) = (m : Int) := (IntWalk.i64_in _ (by omega)).trans (by omega)
          have hr4 : r < 4 := by omega
          have hr4i : (r : Int) < 4 := by omega
          have hr0i : (0 : Int) ≤ (r : Int) := by omega
          have hsw := mul8 hs hlt2
          have hs0 : (0 : Int) ≤ (s : Int) := by omega
          have hmin : min s 32 = s := by omega
          have hst := tur_step HS.out i j hlt hlt2
          rw [← hm, ← hr, ← hs] at hst
          obtain ⟨v, hv⟩ : ∃ v, v = 255 * 2 ^ s % 4294967296 := ⟨_, rfl⟩
          have hvl : v < 4294967296 := by rw [hv]; exact Nat.mod_lt _ (by decide)
          have hsh : (255 : Int) * 2 ^ s % 4294967296 = (v : Int) := by rw [hv]; simp
          have hsh2 : IntKind.u32.wrap ((255 : Int) * 2 ^ s) = (v : Int) := by rw [IntKind.wrap_u32]; exact hsh
          obtain ⟨W0, hW0⟩ : ∃ W0, W0 = col (cut (tur S) (4 * i + j)) i := ⟨_, rfl⟩
          obtain ⟨T0, hT0⟩ : ∃ T0, T0 = col S r := ⟨_, rfl⟩
          have hW0l : W0 < 4294967296 := by rw [hW0]; exact col_lt (cut_lt (tur_lt HS.out) _) i
          have hT0l : T0 < 4294967296 := by rw [hT0]; exact col_lt HS.out r
          rw [← hW0, ← hv, ← hT0] at hst
          have hand := u32_and_nat T0 v hT0l hvl
          obtain ⟨u, hu⟩ : ∃ u, u = T0 &&& v := ⟨_, rfl⟩
          rw [← hu] at hand hst
          have hul : u < 4294967296 := by rw [hu]; exact Nat.lt_of_le_of_lt Nat.and_le_left hT0l
          have hor := u32_or_nat W0 u hW0l hul
          have hct : wr.cell? ⟨w.heap.size + 1 + 1, i, none⟩ = some (.int .u32 (W0 : Int)) := cell_of H2.out i _ (by rw [qF_get _ i hlt, hW0])
          have hcs : wr.cell? ⟨w.heap.size, r, none⟩ = some (.int .u32 (T0 : Int)) := cell_of H0.out r _ (by rw [qF_get _ r hr4, hT0])
          have hft : wr.frozen? ⟨w.heap.size + 1 + 1, i, none⟩ = false := frozen_of_row _ _ _ _ _ H2.out
          have hwi : IntKind.i64.wrap ((j : Int) + 1) = ((j + 1 : Nat) : Int) := (IntWalk.i64_in _ (by omega)).trans (by omega)
          have HW : Hid ((wr.setCell ⟨w.heap.size + 1 + 1, i, none⟩ (.int .u32 ((W0 ||| u : Nat) : Int))).heap[w.heap.size + 1 + 1]? = some (.cells (qF (col (cut (tur S) (4 * i + (j + 1))))) SQT (0, 0))) := hid ((block_set H2.out i _).trans (by
            rw [qF_set _ _ _ hlt]
            congr 2
            refine qF_congr fun k _ => ?_
            by_cases h : k = i
            · subst h; rw [if_pos rfl, hst]; rfl
            · rw [if_neg h]; exact (cut_other _ _ _ (by omega)).symm))
          clear hst hv hW0 hW0l hvl hT0 hT0l hu hul hm hr hs hr4
          go_wp2
          refine wp_region_still_tail 14 (by kernel_rfl) (by kernel_rfl) ?_
          simp only [List.take_succ_cons, List.take_zero, List.drop_succ_cons, List.drop_zero]
          repeat still_step
          refine wpStill_nil ?_
          change wpList _ _ _ _ _ wr.drew
          go_wp2
          have hj := HJ.out
          go_roundg (4 - j - 1)
          case measure => omega
          case rel => exact ⟨j + 1, by omega, rfl, (heap_setCell_other _ _ _ _ (by simp <;> omega)).trans H0.out, (heap_setCell_other _ _ _ _ (by simp)).trans H1.out, HW.out, (HB.out.setCell (by simp <;> omega) _).drew⟩
        · have hje : j = 4 := by omega
          have H2' := hid H2.out
          rw [hje] at H2'
          have hxj : ¬ (j : Int) < 4 := by omega
          have hwi : IntKind.i64.wrap ((i : Int) + 1) = ((i + 1 : Nat) : Int) := (IntWalk.i64_in _ (by omega)).trans (by omega)
          clear hje H2
          go_wp2
          have hi := HI.out
          go_roundg (4 - i - 1)
          case measure => omega
          case rel => exact ⟨i + 1, by omega, rfl, H0.out, H1.out, H2'.out, HB.out⟩
    · have hie : i = 4 := by omega
      have H2' : Hid (wo.heap[w.heap.size + 1 + 1]? = some (.cells (qF (col (tur S))) SQT (0, 0))) := hid (H2.out.trans (by
        have e : qF (col (cut (tur S) (4 * i))) = qF (col (tur S)) := qF_congr fun j hj => cut_all _ _ j (by omega) hj
        rw [e]))
      have hxi : ¬ (i : Int) < 4 := by omega
      have HI2 : Hid ((Try.prog.info? 44).map (·.size) = some (qF (col (tur S))).size) := hid (info4Q.trans (congrArg some (qF_size _).symm))
      have HZ : Hid ((qF fun _ => 0).size = (qF (col (tur S))).size) := hid rfl
      have HO : Hid ((qF (col (tur S))).all (·.oneCell') = true) := hid (qF_one _)
      clear hie H2
      go_wp2_with (first
        | (with_reducible refine wpList_load_row rfl SQT (.tmp 3) rfl (w.heap.size + 1 + 1) rfl SQT (qF (col (tur S))) (0, 0) _ H2'.out undQ rfl HI2.out ?_)
        | (with_reducible refine wpList_store_row rfl SQT (.tmp 2) _ rfl (w.heap.size + 1) (qF (col (tur S))) rfl rfl SQT (qF fun _ => 0) H1.out HI2.out HZ.out HO.out ?_))
      refine bodyPost_ret (v := .agg (qF (col (tur S)))) (results_cell_row rfl _ _ (w.heap.size + 1) SQT (qF (col (tur S))) (0, 0) _ rfl (setRow_heap _ _ _ _ _ _ H1.out) undQ rfl HI2.out) rfl ⟨rfl, ?_⟩
      exact belowRow HB.out (by omega) _

set_option maxHeartbeats 1000000 in
theorem sqboxed_any (S : Nat → Nat) (w : World) (hS : ∀ i, S i < 256) :
    Calls Try.prog 27 #[.agg (qF (col S))] w fun e w' => e = .returned (.agg (qF (col (boxS S)))) ∧ Below w.heap.size w w' := by
  have HS := hid hS
  clear hS
  go_enter Try.func27, Try.ntmps27
  go_wp2
  rw [← qF_zero]
  have h0 : ((w.alloc (.cells (qF (col S)) SQT)).alloc (.cells (qF fun _ => 0) SQT)).heap[w.heap.size]? = some (.cells (qF fun k => if k < 2 * 0 then col (boxS S) k else col S k) SQT (0, 0)) := blkA (blkN rfl _ _) _
  have h1 : ((w.alloc (.cells (qF (col S)) SQT)).alloc (.cells (qF fun _ => 0) SQT)).heap[w.heap.size + 1]? = some (.cells (qF fun _ => 0) SQT (0, 0)) := blkN (by simp) _ _
  have hb : Below w.heap.size w ((w.alloc (.cells (qF (col S)) SQT)).alloc (.cells (qF fun _ => 0) SQT)) :=
    ((Below.refl _ _).alloc (Nat.le_refl _) _).alloc (by simp) _
  have H0 := hid h0; have H1 := hid h1; have HB := hid hb
  clear h0 h1 hb
  generalize (w.alloc (.cells (qF (col S)) SQT)).alloc (.cells (qF fun _ => 0) SQT) = w0 at *
  go_loopg [3] 2 (fun r c wr => ∃ i : Nat, i + r = 2 ∧ c = .int .i64 ((2 * i : Nat) : Int) ∧ wr.heap[w.heap.size]? = some (.cells (qF fun k => if k < 2 * i then col (boxS S) k else col S k) SQT (0, 0)) ∧ wr.heap[w.heap.size + 1]? = some (.cells (qF fun _ => 0) SQT (0, 0)) ∧ Below w.heap.size w wr)
  case atStart => exact ⟨0, rfl, rfl, H0.out, H1.out, HB.out⟩
  case round =>
    clear H0 H1 HB
    obtain ⟨i, hi, rfl, h0, h1, hb⟩ := hrel
    have H0 := hid h0; have H1 := hid h1; have HB := hid hb; have HI := hid hi
    obtain ⟨p, hp⟩ : ∃ p, p = 2 * i := ⟨_, rfl⟩
    rw [← hp] at H0 ⊢
    have hi4 : p ≤ 4 := by omega
    have HP := hid hp
    by_cases hlt : i < 2
    · have hxp : (p : Int) < 4 := by omega
      have hp0 : (0 : Int) ≤ (p : Int) := by omega
      have hp1 : (0 : Int) ≤ ((p + 1 : Nat) : Int) := by omega
      have hp2 : ((p + 1 : Nat) : Int) < 4 := by omega
      obtain ⟨q, hq⟩ : ∃ q, q = p + 1 := ⟨_, rfl⟩
      rw [← hq] at hp1 hp2
      have hpw : IntKind.i64.wrap ((p : Int) + 1) = (q : Int) := (IntWalk.i64_in _ (by omega)).trans (by omega)
      obtain ⟨a, ha⟩ : ∃ a, a = col S p := ⟨_, rfl⟩
      obtain ⟨b, hb2⟩ : ∃ b, b = col S q := ⟨_, rfl⟩
      have hal : a < 4294967296 := by rw [ha]; exact col_lt HS.out p
      have hbl : b < 4294967296 := by rw [hb2]; exact col_lt HS.out q
      have hca : wr.cell? ⟨w.heap.size, p, none⟩ = some (.int .u32 (a : Int)) := cell_of H0.out p _ (by rw [qF_get _ p (by omega), if_neg (by omega), ha])
      have hcb : wr.cell? ⟨w.heap.size, q, none⟩ = some (.int .u32 (b : Int)) := cell_of H0.out q _ (by rw [qF_get _ q (by omega), if_neg (by omega), hb2])
      have hfa : wr.frozen? ⟨w.heap.size, p, none⟩ = false := frozen_of_row _ _ _ _ _ H0.out
      have hfb : wr.frozen? ⟨w.heap.size, q, none⟩ = false := frozen_of_row _ _ _ _ _ H0.out
      have hbt := box_two HS.out p
      rw [← hq, ← ha, ← hb2] at hbt
      obtain ⟨b2, hbb⟩ : ∃ x, x = b * 4294967296 % 18446744073709551616 := ⟨_, rfl⟩
      rw [← hbb] at hbt
      have hb2l : b2 < 18446744073709551616 := by rw [hbb]; exact Nat.mod_lt _ (by decide)
      have haw : IntKind.u64.wrap (a : Int) = (a : Int) := by rw [wrapN, Nat.mod_eq_of_lt (by omega)]
      have hbw : IntKind.u64.wrap (b : Int) = (b : Int) := by rw [wrapN, Nat.mod_eq_of_lt (by omega)]
      have hsh : IntKind.u64.wrap ((b : Int) * 4294967296) = (b2 : Int) := by rw [show (4294967296 : Int) = ((4294967296 : Nat) : Int) from rfl, wrapM, hbb]
      have hor := u64_or_nat a b2 (by omega) hb2l
      obtain ⟨x, hx⟩ : ∃ x, x = a ||| b2 := ⟨_, rfl⟩
      rw [← hx] at hor hbt
      have hxl : x < 18446744073709551616 := by rw [hx]; exact Nat.or_lt_two_pow (n := 64) (by omega) hb2l
      have HC : Hid (∀ (W : World) (k : Nat), Calls Try.prog 18 #[.int .u64 (x : Int)] (W.drewN k) fun e w' => e = .returned (.int .u64 ((boxW x : Nat) : Int)) ∧ ∃ m, w' = W.drewN m) :=
        hid fun W k => (boxed_any x _ hxl).mono fun _ _ h => ⟨h.1, by obtain ⟨j, hj⟩ := h.2; exact ⟨k + j, by rw [hj, World.drewN_drewN]⟩⟩
      obtain ⟨t, ht⟩ : ∃ t, t = boxW x := ⟨_, rfl⟩
      rw [← ht] at HC hbt
      obtain ⟨t0, ht0⟩ : ∃ t0, t0 = t % 4294967296 := ⟨_, rfl⟩
      obtain ⟨t1, ht1⟩ : ∃ t1, t1 = t / 4294967296 := ⟨_, rfl⟩
      rw [← ht0, ← ht1] at hbt
      have hc1 : (t : Int) % 4294967296 = (t0 : Int) := by omega
      have hc1w : IntKind.u32.wrap (t : Int) = (t0 : Int) := by rw [wrap32, ht0]
      have hd1 : (t : Int) / 4294967296 = (t1 : Int) := by omega
      have ht1l : t1 < 4294967296 := by rw [hbt.2]; exact col_lt (boxS_lt HS.out) q
      have hc2 : (t1 : Int) % 4294967296 = (t1 : Int) := by omega
      have hc2w : IntKind.u32.wrap (t1 : Int) = (t1 : Int) := by rw [wrap32, Nat.mod_eq_of_lt ht1l]
      have hwi : IntKind.i64.wrap ((p : Int) + 2) = ((2 * (i + 1) : Nat) : Int) := (IntWalk.i64_in _ (by omega)).trans (by omega)
      have HQ := hid hq; have HBT := hid hbt; have HBV := hid hb2.symm
      clear h0 h1 hb hi hp hq ha hb2 hal hbl hbb hb2l hx hxl ht ht0 ht1 ht1l hbt
      go_wp2
      go_quiet ((go_at_call 18; with_reducible exact HC.out _ _))
      have hpq : p ≠ q := by have := HQ.out; omega
      have hq4 : q < 4 := by omega
      have hrow1 : ((wr.drewN nq).setCell ⟨w.heap.size, p, none⟩ (.int .u32 (t0 : Int))).heap[w.heap.size]? = some (.cells (qF fun k => if k = p then t0 else if k < p then col (boxS S) k else col S k) SQT (0, 0)) := (block_set (w := wr.drewN nq) H0.out p _).trans (by rw [qF_set _ _ _ (by omega)])
      have hcb2 : ((wr.drewN nq).setCell ⟨w.heap.size, p, none⟩ (.int .u32 (t0 : Int))).cell? ⟨w.heap.size, q, none⟩ = some (.int .u32 (b : Int)) := cell_of hrow1 q _ (by rw [qF_get _ q hq4, if_neg (Ne.symm hpq), if_neg (by have := HQ.out; omega), HBV.out])
      have hfb2 : ((wr.drewN nq).setCell ⟨w.heap.size, p, none⟩ (.int .u32 (t0 : Int))).frozen? ⟨w.heap.size, q, none⟩ = false := frozen_of_row _ _ _ _ _ hrow1
      have HW : Hid ((((wr.drewN nq).setCell ⟨w.heap.size, p, none⟩ (.int .u32 (t0 : Int))).setCell ⟨w.heap.size, q, none⟩ (.int .u32 (t1 : Int))).heap[w.heap.size]? = some (.cells (qF fun k => if k < 2 * (i + 1) then col (boxS S) k else col S k) SQT (0, 0))) := hid ((block_set hrow1 q _).trans (by
        rw [qF_set _ _ _ hq4]
        have e : qF (fun k => if k = q then t1 else if k = p then t0 else if k < p then col (boxS S) k else col S k) = qF (fun k => if k < 2 * (i + 1) then col (boxS S) k else col S k) := qF_congr fun k _ => by
          have h1 := HQ.out
          have h2 := HP.out
          by_cases hk : k = q
          · rw [if_pos hk, if_pos (by omega), HBT.out.2, hk]
          · rw [if_neg hk]
            by_cases hk2 : k = p
            · rw [if_pos hk2, if_pos (by omega), HBT.out.1, hk2]
            · rw [if_neg hk2]
              by_cases hk3 : k < p
              · rw [if_pos hk3, if_pos (by omega)]
              · rw [if_neg hk3, if_neg (by omega)]
        rw [e]))
      have HB2 : Hid (Below w.heap.size w (((wr.drewN nq).setCell ⟨w.heap.size, p, none⟩ (.int .u32 (t0 : Int))).setCell ⟨w.heap.size, q, none⟩ (.int .u32 (t1 : Int)))) := hid (((show Below w.heap.size w (wr.drewN nq) from ⟨HB.out.os, HB.out.tape, HB.out.output, HB.out.size, HB.out.block⟩).setCell (by simp) _).setCell (by simp) _)
      have H12 : Hid ((((wr.drewN nq).setCell ⟨w.heap.size, p, none⟩ (.int .u32 (t0 : Int))).setCell ⟨w.heap.size, q, none⟩ (.int .u32 (t1 : Int))).heap[w.heap.size + 1]? = some (.cells (qF fun _ => 0) SQT (0, 0))) := hid ((heap_setCell_other _ _ _ _ (by simp)).trans ((heap_setCell_other _ _ _ _ (by simp)).trans H1.out))
      clear hrow1 hpq hq4
      go_wp2
      have hi := HI.out
      go_roundg (2 - i - 1)
      case measure => omega
      case rel => exact ⟨i + 1, by omega, by go_num, HW.out, H12.out, HB2.out⟩
    · have hie : p = 4 := by omega
      have H0' : Hid (wr.heap[w.heap.size]? = some (.cells (qF (col (boxS S))) SQT (0, 0))) := hid (H0.out.trans (by
        have e : qF (fun k => if k < p then col (boxS S) k else col S k) = qF (col (boxS S)) := qF_congr fun j hj => if_pos (by omega)
        rw [e]))
      have hxi : ¬ (p : Int) < 4 := by omega
      have HI2 : Hid ((Try.prog.info? 44).map (·.size) = some (qF (col (boxS S))).size) := hid (info4Q.trans (congrArg some (qF_size _).symm))
      have HZ : Hid ((qF fun _ => 0).size = (qF (col (boxS S))).size) := hid rfl
      have HO : Hid ((qF (col (boxS S))).all (·.oneCell') = true) := hid (qF_one _)
      clear hie H0 h0 h1 hb hi hp
      go_wp2_with (first
        | (with_reducible refine wpList_load_row rfl SQT (.tmp 1) rfl w.heap.size rfl SQT (qF (col (boxS S))) (0, 0) _ H0'.out undQ rfl HI2.out ?_)
        | (with_reducible refine wpList_store_row rfl SQT (.tmp 2) _ rfl (w.heap.size + 1) (qF (col (boxS S))) rfl rfl SQT (qF fun _ => 0) H1.out HI2.out HZ.out HO.out ?_))
      refine bodyPost_ret (v := .agg (qF (col (boxS S)))) (results_cell_row rfl _ _ (w.heap.size + 1) SQT (qF (col (boxS S))) (0, 0) _ rfl (setRow_heap _ _ _ _ _ _ H1.out) undQ rfl HI2.out) rfl ⟨rfl, ?_⟩
      exact belowRow HB.out (by omega) _
end Go.Proofs.Ytfjcedfjfadfpaa
