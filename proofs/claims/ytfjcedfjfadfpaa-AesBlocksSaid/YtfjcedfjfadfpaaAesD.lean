/-
  Package aes: columns mixed, the next four words of a key.
-/
import Derived.Test.YtfjcedfjfadfpaaAesB
namespace Go.Proofs.Ytfjcedfjfadfpaa
open Go.RowKit
set_option linter.unusedVariables false
set_option linter.unusedSimpArgs false

theorem neg_and32 (n : Nat) (h0 : 0 < n) (h1 : n < 32) : bits .and .u64 (IntKind.u64.wrap (-(n : Int))) 31 = ((32 - n : Nat) : Int) := by
  have key : ∀ m : Fin 32, 0 < m.val → bits .and .u64 (IntKind.u64.wrap (-(m.val : Int))) 31 = ((32 - m.val : Nat) : Int) := by decide +kernel
  exact key ⟨n, h1⟩ h0
theorem rr_bits (x n : Nat) (hx : x < 4294967296) (h0 : 0 < n) (h1 : n < 32) :
    bits .or .u32 ((x : Int) * 2 ^ (32 - n) % 4294967296) ((x : Int) / 2 ^ (32 - (32 - n))) = ((rr x n : Nat) : Int) := by
  have e1 : (x : Int) * 2 ^ (32 - n) % 4294967296 = ((x * 2 ^ (32 - n) % 4294967296 : Nat) : Int) := by simp
  have e2 : (x : Int) / 2 ^ (32 - (32 - n)) = ((x / 2 ^ n : Nat) : Int) := by
    rw [show 32 - (32 - n) = n by omega]; simp
  rw [e1, e2, u32_or_nat _ _ (Nat.mod_lt _ (by omega)) (Nat.lt_of_le_of_lt (Nat.div_le_self _ _) hx)]
  rfl
theorem rot_any (x n : Nat) (z : Int) (w : World) (hz : z = -(n : Int)) (hx : x < 4294967296) (h0 : 0 < n) (h1 : n < 32) :
    Calls Try.prog 31 #[.int .u32 (x : Int), .int .i64 z] w fun e w' => e = .returned (.int .u32 (rr x n : Nat)) ∧ w = w' := by
  subst hz
  have hn := neg_and32 n h0 h1
  have HB := hid (rr_bits x n hx h0 h1)
  go_enter Try.func31, Try.ntmps31
  go_wp2
  go_ret
  exact ⟨ret_i HB.out, rfl⟩
theorem index_runQ (cs : Array Value) (k : Nat) (v : Value) (hk : k < 4) (hv : cs[k]? = some v) (W : World) : (Instr.index 44 (.agg cs) (.int .i64 (k : Int))).run Try.prog W = .ok v W := by
  have hu := run_underlying (P := Try.prog) Try.underlying44 W
  have hu2 := run_underlying (P := Try.prog) Try.underlying42 W
  have h8 : (k : Int) < 4 := by omega
  have hI : (Try.prog.info? 42).map (·.size) = some 1 := by kernel_rfl
  cases hq : Try.prog.info? 42 with
  | none => simp [hq] at hI
  | some i =>
    have hs : i.size = 1 := by simpa [hq] using hI
    simp [Instr.index, asIntOf, hu, part, isAgg, hu2, sizeOf, typeInfo, hq, hs, h8, hv]
    intro h; omega
set_option maxHeartbeats 1000000 in
theorem mixed_any (S : Nat → Nat) (w : World) (hS : ∀ i, S i < 256) :
    Calls Try.prog 29 #[.agg (qF (col S))] w fun e w' => e = .returned (.agg (qF (col (mixS S)))) ∧ Below w.heap.size w w' := by
  have HS := hid hS
  clear hS
  have hA0 : ((w.alloc (.cells (qF (col S)) SQT)).alloc (.cells (qF fun _ => 0) SQT)).heap[w.heap.size]? = some (.cells (qF (col S)) SQT (0, 0)) := blkA (blkN rfl _ _) _
  have d0 := cell_of hA0 0 _ (qF_get _ 0 (by omega))
  have d1 := cell_of hA0 1 _ (qF_get _ 1 (by omega))
  have d2 := cell_of hA0 2 _ (qF_get _ 2 (by omega))
  have d3 := cell_of hA0 3 _ (qF_get _ 3 (by omega))
  rw [qF_zero] at d0 d1 d2 d3
  have HIX : Hid (∀ k : Nat, k < 4 → ∀ W : World, (Instr.index 44 (.agg #[.int .u32 ((col S 0 : Nat) : Int), .int .u32 ((col S 1 : Nat) : Int), .int .u32 ((col S 2 : Nat) : Int), .int .u32 ((col S 3 : Nat) : Int)]) (.int .i64 (k : Int))).run Try.prog W = .ok (.int .u32 ((col S k : Nat) : Int)) W) := hid fun k hk W => index_runQ _ k _ hk (qF_get _ k hk) W
  clear hA0
  go_enter Try.func29, Try.ntmps29
  go_wp2
  clear d0 d1 d2 d3
  rw [← qF_zero]
  have h0 : ((w.alloc (.cells (qF (col S)) SQT)).alloc (.cells (qF fun _ => 0) SQT)).heap[w.heap.size]? = some (.cells (qF fun k => if k < 0 then mixW (col S k) else col S k) SQT (0, 0)) := blkA (blkN rfl _ _) _
  have h1 : ((w.alloc (.cells (qF (col S)) SQT)).alloc (.cells (qF fun _ => 0) SQT)).heap[w.heap.size + 1]? = some (.cells (qF fun _ => 0) SQT (0, 0)) := blkN (by simp) _ _
  have hb : Below w.heap.size w ((w.alloc (.cells (qF (col S)) SQT)).alloc (.cells (qF fun _ => 0) SQT)) :=
    ((Below.refl _ _).alloc (Nat.le_refl _) _).alloc (by simp) _
  have H0 := hid h0; have H1 := hid h1; have HB := hid hb
  clear h0 h1 hb
  generalize (w.alloc (.cells (qF (col S)) SQT)).alloc (.cells (qF fun _ => 0) SQT) = w0 at *
  go_loopg [9] 4 (fun r c wr => ∃ i : Nat, i + r = 4 ∧ c = .int .i64 (i : Int) ∧ wr.heap[w.heap.size]? = some (.cells (qF fun k => if k < i then mixW (col S k) else col S k) SQT (0, 0)) ∧ wr.heap[w.heap.size + 1]? = some (.cells (qF fun _ => 0) SQT (0, 0)) ∧ Below w.heap.size w wr)
  case atStart => exact ⟨0, rfl, rfl, H0.out, H1.out, HB.out⟩
  case round =>
    clear H0 H1 HB
    obtain ⟨i, hi, rfl, h0, h1, hb⟩ := hrel
    have H0 := hid h0; have H1 := hid h1; have HB := hid hb; have HI := hid hi
    have hi4 : i ≤ 4 := by omega
    clear h0 h1 hb hi
    by_cases hlt : i < 4
    · have hxi : (i : Int) < 4 := by omega
      have hi0 : (0 : Int) ≤ (i : Int) := by omega
      have hix := HIX.out i hlt
      obtain ⟨a, ha⟩ : ∃ a, a = col S i := ⟨_, rfl⟩
      rw [← ha] at hix
      have hal : a < 4294967296 := by rw [ha]; exact col_lt HS.out i
      have K1 : Hid (∀ W, _) := hid fun W => rot_any a 8 (-8) W rfl hal (by omega) (by omega)
      have K2 : Hid (∀ W, _) := hid fun W => rot_any a 16 (-16) W rfl hal (by omega) (by omega)
      have K3 : Hid (∀ W, _) := hid fun W => rot_any a 24 (-24) W rfl hal (by omega) (by omega)
      obtain ⟨b, hb⟩ : ∃ b, b = rr a 8 := ⟨_, rfl⟩
      obtain ⟨c, hc⟩ : ∃ c, c = rr a 16 := ⟨_, rfl⟩
      obtain ⟨d, hd⟩ : ∃ d, d = rr a 24 := ⟨_, rfl⟩
      rw [← hb] at K1; rw [← hc] at K2; rw [← hd] at K3
      have hbl : b < 4294967296 := by rw [hb]; exact rr_lt hal 8
      have hcl : c < 4294967296 := by rw [hc]; exact rr_lt hal 16
      have hdl : d < 4294967296 := by rw [hd]; exact rr_lt hal 24
      obtain ⟨x, hx⟩ : ∃ x, x = a ^^^ b := ⟨_, rfl⟩
      have hxl : x < 4294967296 := by rw [hx]; exact xor_32 hal hbl
      have e1 := u32_xor_nat a b hal hbl
      rw [← hx] at e1
      have hxw : IntKind.u64.wrap (x : Int) = (x : Int) := by rw [wrapN, Nat.mod_eq_of_lt (by omega)]
      have K4 : Hid (∀ W, _) := hid fun W => doubled_any x W (by omega)
      obtain ⟨y, hy⟩ : ∃ y, y = dblW x := ⟨_, rfl⟩
      rw [← hy] at K4
      obtain ⟨z, hz⟩ : ∃ z, z = y % 4294967296 := ⟨_, rfl⟩
      have hzl : z < 4294967296 := by rw [hz]; exact Nat.mod_lt _ (by decide)
      have hyz : (y : Int) % 4294967296 = (z : Int) := by omega
      have hyw : IntKind.u32.wrap (y : Int) = (z : Int) := by rw [wrap32, hz]
      have e2 := u32_xor_nat z b hzl hbl
      have e3 := u32_xor_nat (z ^^^ b) c (xor_32 hzl hbl) hcl
      have e4 := u32_xor_nat (z ^^^ b ^^^ c) d (xor_32 (xor_32 hzl hbl) hcl) hdl
      obtain ⟨m1, hm1⟩ : ∃ m, m = z ^^^ b := ⟨_, rfl⟩
      obtain ⟨m2, hm2⟩ : ∃ m, m = m1 ^^^ c := ⟨_, rfl⟩
      obtain ⟨m3, hm3⟩ : ∃ m, m = m2 ^^^ d := ⟨_, rfl⟩
      rw [← hm1] at e2 e3 e4
      rw [← hm2] at e3 e4
      rw [← hm3] at e4
      have hmx : m3 = mixW (col S i) := by
        rw [hm3, hm2, hm1, hz, hy, hx, hb, hc, hd, ha]; rfl
      have hfz : wr.frozen? ⟨w.heap.size, i, none⟩ = false := frozen_of_row _ _ _ _ _ H0.out
      have hci : wr.cell? ⟨w.heap.size, i, none⟩ = some (.int .u32 (a : Int)) := cell_of H0.out i _ (by rw [qF_get _ i hlt, if_neg (Nat.lt_irrefl i), ha])
      have hwi : IntKind.i64.wrap ((i : Int) + 1) = ((i + 1 : Nat) : Int) := (IntWalk.i64_in _ (by omega)).trans (by omega)
      have HW : Hid ((wr.setCell ⟨w.heap.size, i, none⟩ (.int .u32 (m3 : Int))).heap[w.heap.size]? = some (.cells (qF fun k => if k < i + 1 then mixW (col S k) else col S k) SQT (0, 0))) := hid ((block_set H0.out i _).trans (by
        rw [qF_set _ _ _ hlt]
        have e : qF (fun q => if q = i then m3 else if q < i then mixW (col S q) else col S q) = qF (fun k => if k < i + 1 then mixW (col S k) else col S k) := qF_congr fun k _ => by
          by_cases h : k = i
          · rw [if_pos h, if_pos (by omega), hmx, h]
          · rw [if_neg h]
            by_cases h2 : k < i
            · rw [if_pos h2, if_pos (by omega)]
            · rw [if_neg h2, if_neg (by omega)]
        rw [e]))
      clear ha hal hb hc hd hbl hcl hdl hx hxl hy hz hzl hm1 hm2 hm3 hmx
      go_wp2_with fail
      refine (K1.out _).mono ?_
      rintro e w' ⟨rfl, rfl⟩
      go_wp2_with fail
      refine (K2.out _).mono ?_
      rintro e w' ⟨rfl, rfl⟩
      go_wp2_with fail
      refine (K3.out _).mono ?_
      rintro e w' ⟨rfl, rfl⟩
      go_wp2_with fail
      refine (K4.out _).mono ?_
      rintro e w' ⟨rfl, rfl⟩
      go_wp2
      have hi := HI.out
      go_roundg (4 - i - 1)
      case measure => omega
      case rel => exact ⟨i + 1, by omega, rfl, HW.out, (heap_setCell_other _ _ _ _ (by simp)).trans H1.out, HB.out.setCell (by simp) _⟩
    · have hie : i = 4 := by omega
      have H0' : Hid (wr.heap[w.heap.size]? = some (.cells (qF (col (mixS S))) SQT (0, 0))) := hid (H0.out.trans (by
        have e : qF (fun k => if k < i then mixW (col S k) else col S k) = qF (col (mixS S)) := qF_congr fun j hj => (if_pos (by omega)).trans (mixW_col HS.out j)
        rw [e]))
      have hxi : ¬ (i : Int) < 4 := by omega
      have HI2 : Hid ((Try.prog.info? 44).map (·.size) = some (qF (col (mixS S))).size) := hid (info4Q.trans (congrArg some (qF_size _).symm))
      have HZ : Hid ((qF fun _ => 0).size = (qF (col (mixS S))).size) := hid rfl
      have HO : Hid ((qF (col (mixS S))).all (·.oneCell') = true) := hid (qF_one _)
      clear hie H0
      go_wp2_with (first
        | (with_reducible refine wpList_load_row rfl SQT (.tmp 1) rfl w.heap.size rfl SQT (qF (col (mixS S))) (0, 0) _ H0'.out undQ rfl HI2.out ?_)
        | (with_reducible refine wpList_store_row rfl SQT (.tmp 2) _ rfl (w.heap.size + 1) (qF (col (mixS S))) rfl rfl SQT (qF fun _ => 0) H1.out HI2.out HZ.out HO.out ?_))
      refine bodyPost_ret (v := .agg (qF (col (mixS S)))) (results_cell_row rfl _ _ (w.heap.size + 1) SQT (qF (col (mixS S))) (0, 0) _ rfl (setRow_heap _ _ _ _ _ _ H1.out) undQ rfl HI2.out) rfl ⟨rfl, ?_⟩
      exact belowRow HB.out (by omega) _
set_option maxHeartbeats 1000000 in
theorem next_any (S : Nat → Nat) (p : Nat) (w : World) (hS : ∀ i, S i < 256) (hp : p < 256) :
    Calls Try.prog 30 #[.agg (qF (col S)), .int .u32 (p : Int)] w fun e w' => e = .returned (.agg (qF (col (nx S p)))) ∧ Below w.heap.size w w' := by
  have HS := hid hS; have HP := hid hp
  have hc3 : ((w.alloc (.cells (qF (col S)) SQT)).alloc (.cells (qF fun _ => 0) SQT)).cell? ⟨w.heap.size, 3, none⟩ = some (.int .u32 ((col S 3 : Nat) : Int)) := cell_of (blkA (blkN rfl _ _) _) 3 _ (qF_get _ 3 (by omega))
  rw [qF_zero] at hc3
  obtain ⟨a, ha⟩ : ∃ a, a = col S 3 := ⟨_, rfl⟩
  rw [← ha] at hc3
  have hal : a < 4294967296 := by rw [ha]; exact col_lt hS 3
  have K1 : Hid (∀ W, _) := hid fun W => rot_any a 8 (-8) W rfl hal (by omega) (by omega)
  obtain ⟨b, hb⟩ : ∃ b, b = rr a 8 := ⟨_, rfl⟩
  rw [← hb] at K1
  have hbl : b < 4294967296 := by rw [hb]; exact rr_lt hal 8
  have hbw : IntKind.u64.wrap (b : Int) = (b : Int) := by rw [wrapN, Nat.mod_eq_of_lt (by omega)]
  have K2 : Hid (∀ W, _) := hid fun W => boxed_any b W (by omega)
  obtain ⟨y, hy⟩ : ∃ y, y = boxW b := ⟨_, rfl⟩
  rw [← hy] at K2
  obtain ⟨z, hz⟩ : ∃ z, z = y % 4294967296 := ⟨_, rfl⟩
  have hzl : z < 4294967296 := by rw [hz]; exact Nat.mod_lt _ (by decide)
  have hyz : (y : Int) % 4294967296 = (z : Int) := by omega
  have hyw : IntKind.u32.wrap (y : Int) = (z : Int) := by rw [wrap32, hz]
  have e1 := u32_xor_nat z p hzl (by omega)
  obtain ⟨t0, ht0⟩ : ∃ t, t = z ^^^ p := ⟨_, rfl⟩
  rw [← ht0] at e1
  have ht0l : t0 < 4294967296 := by rw [ht0]; exact xor_32 hzl (by omega)
  have hbeg : t0 ^^^ col S 0 = col (nx S p) 0 := by rw [ht0, hz, hy, hb, ha]; exact nx_begin hS hp
  have HT0 := hid ht0l; have HBEG := hid hbeg
  clear hS hp ha hal hb hbl hy hz hzl ht0 ht0l hbeg
  go_enter Try.func30, Try.ntmps30
  go_wp2_with fail
  refine (K1.out _).mono ?_
  rintro e w' ⟨rfl, rfl⟩
  go_wp2_with fail
  refine (K2.out _).mono ?_
  rintro e w' ⟨rfl, kd, rfl⟩
  go_wp2
  clear hc3
  rw [← qF_zero]
  have h0 : (((w.alloc (.cells (qF (col S)) SQT)).alloc (.cells (qF fun _ => 0) SQT)).drewN kd).heap[w.heap.size]? = some (.cells (qF fun k => if k < 0 then col (nx S p) k else col S k) SQT (0, 0)) := blkA (blkN rfl _ _) _
  have h1 : (((w.alloc (.cells (qF (col S)) SQT)).alloc (.cells (qF fun _ => 0) SQT)).drewN kd).heap[w.heap.size + 1]? = some (.cells (qF fun _ => 0) SQT (0, 0)) := blkN (by simp) (qF fun _ => 0) SQT
  have hb : Below w.heap.size w (((w.alloc (.cells (qF (col S)) SQT)).alloc (.cells (qF fun _ => 0) SQT)).drewN kd) :=
    have h := ((Below.refl w.heap.size w).alloc (Nat.le_refl _) (.cells (qF (col S)) SQT)).alloc (by simp) (.cells (qF fun _ => 0) SQT)
    ⟨h.os, h.tape, h.output, h.size, h.block⟩
  have H0 := hid h0; have H1 := hid h1; have HB := hid hb
  clear h0 h1 hb
  generalize ((w.alloc (.cells (qF (col S)) SQT)).alloc (.cells (qF fun _ => 0) SQT)).drewN kd = w0 at *
  go_loopg [6, 17] 4 (fun r u c wr => ∃ i t : Nat, i + r = 4 ∧ c = .int .i64 (i : Int) ∧ u = .int .u32 (t : Int) ∧ t < 4294967296 ∧ (i < 4 → t ^^^ col S i = col (nx S p) i) ∧ wr.heap[w.heap.size]? = some (.cells (qF fun k => if k < i then col (nx S p) k else col S k) SQT (0, 0)) ∧ wr.heap[w.heap.size + 1]? = some (.cells (qF fun _ => 0) SQT (0, 0)) ∧ Below w.heap.size w wr)
  case atStart => exact ⟨0, t0, rfl, rfl, rfl, HT0.out, fun _ => HBEG.out, H0.out, H1.out, HB.out⟩
  case round =>
    clear H0 H1 HB HT0 HBEG e1
    obtain ⟨i, t, hi, rfl, rfl, htl, htx, h0, h1, hb⟩ := hrel
    have H0 := hid h0; have H1 := hid h1; have HB := hid hb; have HI := hid hi
    have hi4 : i ≤ 4 := by omega
    clear h0 h1 hb hi
    by_cases hlt : i < 4
    · have hxi : (i : Int) < 4 := by omega
      have hi0 : (0 : Int) ≤ (i : Int) := by omega
      obtain ⟨a, ha⟩ : ∃ a, a = col S i := ⟨_, rfl⟩
      have hal : a < 4294967296 := by rw [ha]; exact col_lt HS.out i
      obtain ⟨x, hx⟩ : ∃ x, x = t ^^^ a := ⟨_, rfl⟩
      have hxl : x < 4294967296 := by rw [hx]; exact xor_32 htl hal
      have e1 := u32_xor_nat t a htl hal
      rw [← hx] at e1
      have hxc : x = col (nx S p) i := by rw [hx, ha]; exact htx hlt
      have hnext : i + 1 < 4 → x ^^^ col S (i + 1) = col (nx S p) (i + 1) := fun _ => by rw [hxc]; exact nx_more HS.out HP.out i
      have hfz : wr.frozen? ⟨w.heap.size, i, none⟩ = false := frozen_of_row _ _ _ _ _ H0.out
      have hci : wr.cell? ⟨w.heap.size, i, none⟩ = some (.int .u32 (a : Int)) := cell_of H0.out i _ (by rw [qF_get _ i hlt, if_neg (Nat.lt_irrefl i), ha])
      have hwi : IntKind.i64.wrap ((i : Int) + 1) = ((i + 1 : Nat) : Int) := (IntWalk.i64_in _ (by omega)).trans (by omega)
      have HW : Hid ((wr.setCell ⟨w.heap.size, i, none⟩ (.int .u32 (x : Int))).heap[w.heap.size]? = some (.cells (qF fun k => if k < i + 1 then col (nx S p) k else col S k) SQT (0, 0))) := hid ((block_set H0.out i _).trans (by
        rw [qF_set _ _ _ hlt]
        have e : qF (fun q => if q = i then x else if q < i then col (nx S p) q else col S q) = qF (fun k => if k < i + 1 then col (nx S p) k else col S k) := qF_congr fun k _ => by
          by_cases h : k = i
          · rw [if_pos h, if_pos (by omega), hxc, h]
          · rw [if_neg h]
            by_cases h2 : k < i
            · rw [if_pos h2, if_pos (by omega)]
            · rw [if_neg h2, if_neg (by omega)]
        rw [e]))
      have HXL := hid hxl; have HNX := hid hnext
      clear ha hal hx hxl hxc hnext htx htl
      go_wp2
      have hi := HI.out
      go_roundg (4 - i - 1)
      case measure => omega
      case rel => exact ⟨i + 1, x, by omega, rfl, rfl, HXL.out, HNX.out, HW.out, (heap_setCell_other _ _ _ _ (by simp)).trans H1.out, HB.out.setCell (by simp) _⟩
    · have hie : i = 4 := by omega
      have H0' : Hid (wr.heap[w.heap.size]? = some (.cells (qF (col (nx S p))) SQT (0, 0))) := hid (H0.out.trans (by
        have e : qF (fun k => if k < i then col (nx S p) k else col S k) = qF (col (nx S p)) := qF_congr fun j hj => if_pos (by omega)
        rw [e]))
      have hxi : ¬ (i : Int) < 4 := by omega
      have HI2 : Hid ((Try.prog.info? 44).map (·.size) = some (qF (col (nx S p))).size) := hid (info4Q.trans (congrArg some (qF_size _).symm))
      have HZ : Hid ((qF fun _ => 0).size = (qF (col (nx S p))).size) := hid rfl
      have HO : Hid ((qF (col (nx S p))).all (·.oneCell') = true) := hid (qF_one _)
      clear hie H0 htl htx
      go_wp2_with (first
        | (with_reducible refine wpList_load_row rfl SQT (.tmp 2) rfl w.heap.size rfl SQT (qF (col (nx S p))) (0, 0) _ H0'.out undQ rfl HI2.out ?_)
        | (with_reducible refine wpList_store_row rfl SQT (.tmp 4) _ rfl (w.heap.size + 1) (qF (col (nx S p))) rfl rfl SQT (qF fun _ => 0) H1.out HI2.out HZ.out HO.out ?_))
      refine bodyPost_ret (v := .agg (qF (col (nx S p)))) (results_cell_row rfl _ _ (w.heap.size + 1) SQT (qF (col (nx S p))) (0, 0) _ rfl (setRow_heap _ _ _ _ _ _ H1.out) undQ rfl HI2.out) rfl ⟨rfl, ?_⟩
      exact belowRow HB.out (by omega) _
end Go.Proofs.Ytfjcedfjfadfpaa
