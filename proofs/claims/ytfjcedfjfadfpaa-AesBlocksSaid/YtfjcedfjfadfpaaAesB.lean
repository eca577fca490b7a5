/-
  Package aes: four columns.
-/
import Derived.Test.YtfjcedfjfadfpaaAesL
import Derived.Test.YtfjcedfjfadfpaaShaS
import Derived.Test.YtfjcedfjfadfpaaRow4
import Derived.Deep.WholeRow
import Derived.StillTailTactics
namespace Go.Proofs.Ytfjcedfjfadfpaa
open Go.RowKit
set_option linter.unusedVariables false
set_option linter.unusedSimpArgs false

abbrev SQT : TypeId := 44
/-- Four columns as an array. -/
def qF (f : Nat → Nat) : Array Value := #[.int .u32 (f 0 : Int), .int .u32 (f 1 : Int), .int .u32 (f 2 : Int), .int .u32 (f 3 : Int)]
theorem qF_size (f : Nat → Nat) : (qF f).size = 4 := rfl
theorem qF_one (f : Nat → Nat) : (qF f).all (·.oneCell') = true := by simp [qF, Value.oneCell']
theorem qF_get (f : Nat → Nat) (k : Nat) (h : k < 4) : (qF f)[k]? = some (.int .u32 (f k : Int)) := by
  have : k = 0 ∨ k = 1 ∨ k = 2 ∨ k = 3 := by omega
  rcases this with rfl | rfl | rfl | rfl <;> rfl
theorem qF_set (f : Nat → Nat) (k v : Nat) (h : k < 4) : (qF f).setIfInBounds k (.int .u32 (v : Int)) = qF (fun q => if q = k then v else f q) := by
  have : k = 0 ∨ k = 1 ∨ k = 2 ∨ k = 3 := by omega
  rcases this with rfl | rfl | rfl | rfl <;> rfl
theorem qF_congr {f g : Nat → Nat} (h : ∀ k, k < 4 → f k = g k) : qF f = qF g := by
  rw [qF, qF, h 0 (by omega), h 1 (by omega), h 2 (by omega), h 3 (by omega)]
theorem info4Q : (Try.prog.info? 44).map (·.size) = some 4 := by kernel_rfl
theorem undQ : Try.prog.underlying 44 = some (.array 4 42) := Try.underlying44
theorem qF_zero : qF (fun _ => 0) = #[Value.int .u32 0, .int .u32 0, .int .u32 0, .int .u32 0] := rfl
theorem xor_32 {a b : Nat} (ha : a < 4294967296) (hb : b < 4294967296) : a ^^^ b < 4294967296 := Nat.xor_lt_two_pow (n := 32) ha hb

set_option maxRecDepth 100000 in
set_option maxHeartbeats 800000 in
theorem against_any (f g : Nat → Nat) (w : World) (hf : ∀ k, k < 4 → f k < 4294967296) (hg : ∀ k, k < 4 → g k < 4294967296) :
    Calls Try.prog 26 #[.agg (qF f), .agg (qF g)] w fun e w' => e = .returned (.agg (qF fun k => f k ^^^ g k)) ∧ Below w.heap.size w w' := by
  have HF := hid hf; have HG := hid hg
  clear hf hg
  go_enter Try.func26, Try.ntmps26
  go_wp2
  rw [← qF_zero]
  have h0 : (((w.alloc (.cells (qF f) SQT)).alloc (.cells (qF g) SQT)).alloc (.cells (qF fun _ => 0) SQT)).heap[w.heap.size]? = some (.cells (qF f) SQT (0, 0)) := blkA (blkA (blkN rfl _ _) _) _
  have h1 : (((w.alloc (.cells (qF f) SQT)).alloc (.cells (qF g) SQT)).alloc (.cells (qF fun _ => 0) SQT)).heap[w.heap.size + 1]? = some (.cells (qF g) SQT (0, 0)) := blkA (blkN (by simp) _ _) _
  have h2 : (((w.alloc (.cells (qF f) SQT)).alloc (.cells (qF g) SQT)).alloc (.cells (qF fun _ => 0) SQT)).heap[w.heap.size + 1 + 1]? = some (.cells (qF fun _ => 0) SQT (0, 0)) := blkN (by simp) _ _
  have hb : Below w.heap.size w (((w.alloc (.cells (qF f) SQT)).alloc (.cells (qF g) SQT)).alloc (.cells (qF fun _ => 0) SQT)) :=
    (((Below.refl _ _).alloc (Nat.le_refl _) _).alloc (by simp) _).alloc (by simp; omega) _
  have H0 := hid h0; have H1 := hid h1; have H2 := hid h2; have HB := hid hb
  clear h0 h1 h2 hb
  generalize ((w.alloc (.cells (qF f) SQT)).alloc (.cells (qF g) SQT)).alloc (.cells (qF fun _ => 0) SQT) = w0 at *
  go_loopg [6] 4 (fun r c wr => ∃ i : Nat, i + r = 4 ∧ c = .int .i64 (i : Int) ∧ wr.heap[w.heap.size]? = some (.cells (qF fun k => if k < i then f k ^^^ g k else f k) SQT (0, 0)) ∧ wr.heap[w.heap.size + 1]? = some (.cells (qF g) SQT (0, 0)) ∧
    wr.heap[w.heap.size + 1 + 1]? = some (.cells (qF fun _ => 0) SQT (0, 0)) ∧ Below w.heap.size w wr)
  case atStart => exact ⟨0, rfl, rfl, H0.out, H1.out, H2.out, HB.out⟩
  case round =>
    clear H0 H1 H2 HB
    obtain ⟨i, hi, rfl, h0, h1, h2, hb⟩ := hrel
    have H0 := hid h0; have H1 := hid h1; have H2 := hid h2; have HB := hid hb; have HI := hid hi
    have hi4 : i ≤ 4 := by omega
    clear h0 h1 h2 hb hi
    by_cases hlt : i < 4
    · have hxi : (i : Int) < 4 := by omega
      have hi0 : (0 : Int) ≤ (i : Int) := by omega
      obtain ⟨a, ha⟩ : ∃ a, a = f i := ⟨_, rfl⟩
      obtain ⟨b, hb⟩ : ∃ b, b = g i := ⟨_, rfl⟩
      have hca : wr.cell? ⟨w.heap.size, i, none⟩ = some (.int .u32 (a : Int)) := cell_of H0.out i _ (by rw [qF_get _ i hlt, if_neg (Nat.lt_irrefl i), ha])
      have hcb : wr.cell? ⟨w.heap.size + 1, i, none⟩ = some (.int .u32 (b : Int)) := cell_of H1.out i _ (by rw [qF_get _ i hlt, hb])
      have hfz : wr.frozen? ⟨w.heap.size, i, none⟩ = false := frozen_of_row _ _ _ _ _ H0.out
      have hx : bits .xor .u32 (a : Int) (b : Int) = ((a ^^^ b : Nat) : Int) := u32_xor_nat a b (by rw [ha]; exact HF.out i hlt) (by rw [hb]; exact HG.out i hlt)
      have hwi : IntKind.i64.wrap ((i : Int) + 1) = ((i + 1 : Nat) : Int) := (IntWalk.i64_in _ (by omega)).trans (by omega)
      have HW : Hid ((wr.setCell ⟨w.heap.size, i, none⟩ (.int .u32 ((a ^^^ b : Nat) : Int))).heap[w.heap.size]? = some (.cells (qF fun k => if k < i + 1 then f k ^^^ g k else f k) SQT (0, 0))) := hid ((block_set H0.out i _).trans (by
        rw [qF_set _ _ _ hlt, ha, hb]
        congr 2
        refine qF_congr fun k _ => ?_
        by_cases h : k = i
        · subst h; simp
        · by_cases h2 : k < i
          · rw [if_neg h, if_pos h2, if_pos (by omega)]
          · rw [if_neg h, if_neg h2, if_neg (by omega)]))
      clear ha hb
      go_wp2
      refine wp_region_still_tail 7 (by kernel_rfl) (by kernel_rfl) ?_
      simp only [List.take_succ_cons, List.take_zero, List.drop_succ_cons, List.drop_zero]
      repeat still_step
      refine wpStill_nil ?_
      change wpList _ _ _ _ _ wr.drew
      go_wp2
      have hi := HI.out
      go_roundg (4 - i - 1)
      case measure => omega
      case rel => exact ⟨i + 1, by omega, rfl, HW.out, (heap_setCell_other _ _ _ _ (by simp)).trans H1.out, (heap_setCell_other _ _ _ _ (by simp <;> omega)).trans H2.out, (HB.out.setCell (by simp) _).drew⟩
    · have hi4e : i = 4 := by omega
      have H0' : Hid (wr.heap[w.heap.size]? = some (.cells (qF fun k => f k ^^^ g k) SQT (0, 0))) := hid (H0.out.trans (by
        congr 2
        exact qF_congr fun k hk => by rw [if_pos (by omega)]))
      have hxi : ¬ (i : Int) < 4 := by omega
      have HI2 : Hid ((Try.prog.info? 44).map (·.size) = some (qF fun k => f k ^^^ g k).size) := hid (info4Q.trans (congrArg some (qF_size _).symm))
      have HZ : Hid ((qF fun _ => 0).size = (qF fun k => f k ^^^ g k).size) := hid rfl
      have HO : Hid ((qF fun k => f k ^^^ g k).all (·.oneCell') = true) := hid (qF_one _)
      clear hi4e H0
      go_wp2_with (first
        | (with_reducible refine wpList_load_row rfl SQT (.tmp 2) rfl w.heap.size rfl SQT (qF fun k => f k ^^^ g k) (0, 0) _ H0'.out undQ rfl HI2.out ?_)
        | (with_reducible refine wpList_store_row rfl SQT (.tmp 4) _ rfl (w.heap.size + 1 + 1) (qF fun k => f k ^^^ g k) rfl rfl SQT (qF fun _ => 0) H2.out HI2.out HZ.out HO.out ?_))
      refine bodyPost_ret (v := .agg (qF fun k => f k ^^^ g k)) (results_cell_row rfl _ _ (w.heap.size + 1 + 1) SQT (qF fun k => f k ^^^ g k) (0, 0) _ rfl (setRow_heap _ _ _ _ _ _ H2.out) undQ rfl HI2.out) rfl ⟨rfl, ?_⟩
      exact belowRow HB.out (by omega) _

theorem wrap32 (v : Nat) : IntKind.u32.wrap ((v : Nat) : Int) = ((v % 4294967296 : Nat) : Int) := by rw [IntKind.wrap_u32]; omega
/-- The bytes of a text as a function. -/
def bf (m : List UInt8) (i : Nat) : Nat := (m.getD i 0).toNat
theorem bf_lt (m : List UInt8) (i : Nat) : bf m i < 256 := UInt8.toNat_lt _
theorem bf_at (m : List UInt8) (i : Nat) (h : i < m.length) : bf m i = (m[i]).toNat := by
  unfold bf
  rw [List.getD_eq_getElem?_getD, List.getElem?_eq_getElem h]; rfl
theorem quo4 {k q : Nat} (h : q = k / 4) (hk : k < 64) : ((k : Int)).tdiv 4 = (q : Int) ∧ (k : Int) / 4 = (q : Int) ∧ IntKind.i64.wrap (q : Int) = (q : Int) := by
  refine ⟨by rw [Int.tdiv_eq_ediv_of_nonneg (by omega)]; omega, by omega, IntWalk.i64_in _ (by omega)⟩
theorem rem4 {k r : Nat} (h : r = k % 4) (hk : k < 64) : ((k : Int)).tmod 4 = (r : Int) ∧ (k : Int) % 4 = (r : Int) ∧ IntKind.i64.wrap (r : Int) = (r : Int) := by
  refine ⟨by rw [Int.tmod_eq_emod_of_nonneg (by omega)]; omega, by omega, IntWalk.i64_in _ (by omega)⟩
theorem mul8 {r s : Nat} (h : s = 8 * r) (hr : r < 4) : IntKind.i64.wrap (8 * (r : Int)) = (s : Int) := (IntWalk.i64_in _ (by omega)).trans (by omega)
set_option maxHeartbeats 1000000 in
theorem squareOf_any (A : Option Addr) (m : List UInt8) (n c : Nat) (w : World) (hS : Sq w w.heap.size A c (bvs m)) (hm : m.length = 16) (hn : n = 16) :
    Calls Try.prog 21 #[.slice A n c] w fun e w' => e = .returned (.agg (qF (col (bf m)))) ∧ Below w.heap.size w w' := by
  subst hn
  have HS := hid hS
  have HM := hid hm
  clear hS hm
  go_enter Try.func21, Try.ntmps21
  go_wp2
  rw [← qF_zero]
  have hrow : ((w.alloc (.cells (qF fun _ => 0) SQT)).alloc (.cells (qF fun _ => 0) SQT)).heap[w.heap.size + 1]? = some (.cells (qF (col (cut (bf m) 0))) SQT (0, 0)) := (blkN (by simp) _ _).trans (by
    have e : qF (fun _ => 0) = qF (col (cut (bf m) 0)) := qF_congr fun k _ => (cut_zero _ k).symm
    rw [e])
  have hres : ((w.alloc (.cells (qF fun _ => 0) SQT)).alloc (.cells (qF fun _ => 0) SQT)).heap[w.heap.size]? = some (.cells (qF fun _ => 0) SQT (0, 0)) := blkA (blkN rfl _ _) _
  have hbel : Below w.heap.size w ((w.alloc (.cells (qF fun _ => 0) SQT)).alloc (.cells (qF fun _ => 0) SQT)) := ((Below.refl _ _).alloc (Nat.le_refl _) _).alloc (by simp) _
  have HROW := hid hrow; have HRES := hid hres; have HB := hid hbel
  clear hrow hres hbel
  generalize (w.alloc (.cells (qF fun _ => 0) SQT)).alloc (.cells (qF fun _ => 0) SQT) = w0 at *
  go_loopg [8] 16 (fun g i wr => ∃ k : Nat, k + g = 16 ∧ i = .int .i64 (k : Int) ∧ wr.heap[w.heap.size + 1]? = some (.cells (qF (col (cut (bf m) k))) SQT (0, 0)) ∧ wr.heap[w.heap.size]? = some (.cells (qF fun _ => 0) SQT (0, 0)) ∧ Below w.heap.size w wr)
  case atStart => exact ⟨0, by omega, rfl, HROW.out, HRES.out, HB.out⟩
  case round =>
    clear HROW HRES HB
    obtain ⟨k, hk, rfl, hrow, hres, hb⟩ := hrel
    have HK := hid hk; have HB := hid hb; have HROW := hid hrow; have HRES := hid hres
    have hkn : k ≤ 16 := by omega
    clear hk hb hrow hres
    by_cases hlt : k < 16
    · have hx : (k : Int) < 16 := by omega
      have hk0 : (0 : Int) ≤ (k : Int) := by omega
      obtain ⟨b, o, rfl, hbb, hcell⟩ := ((HS.out.below HB.out).lie).byte (k := k) (by rw [HM.out]; omega)
      have hyb := bf_at m k (by rw [HM.out]; omega)
      obtain ⟨y, hy⟩ : ∃ y, y = bf m k := ⟨_, rfl⟩
      rw [← hyb, ← hy] at hcell
      have hyl : y < 256 := by rw [hy]; exact bf_lt m k
      obtain ⟨q, hq⟩ : ∃ q, q = k / 4 := ⟨_, rfl⟩
      obtain ⟨r, hr⟩ : ∃ r, r = k % 4 := ⟨_, rfl⟩
      obtain ⟨s, hs⟩ : ∃ s, s = 8 * r := ⟨_, rfl⟩
      obtain ⟨hq1, hq2, hqw⟩ := quo4 hq (by omega)
      obtain ⟨hr1, hr2, hrw⟩ := rem4 hr (by omega)
      have hr4 : r < 4 := by omega
      have hq4 : q < 4 := by omega
      have hq4i : (q : Int) < 4 := by omega
      have hq0i : (0 : Int) ≤ (q : Int) := by omega
      have hsw := mul8 hs hr4
      have hs0 : (0 : Int) ≤ (s : Int) := by omega
      have hmin : min s 32 = s := by omega
      have hst := put_step (bf_lt m) k hlt
      rw [← hq, ← hr, ← hs, ← hy] at hst
      obtain ⟨v, hv⟩ : ∃ v, v = y * 2 ^ s % 4294967296 := ⟨_, rfl⟩
      have hvl : v < 4294967296 := by rw [hv]; exact Nat.mod_lt _ (by decide)
      have hsh : (y : Int) * 2 ^ s % 4294967296 = (v : Int) := by rw [hv]; simp
      have hsh2 : IntKind.u32.wrap ((y : Int) * 2 ^ s) = (v : Int) := by rw [IntKind.wrap_u32]; exact hsh
      have hyw : IntKind.u32.wrap (y : Int) = (y : Int) := by rw [wrap32, Nat.mod_eq_of_lt (by omega)]
      obtain ⟨W0, hW0⟩ : ∃ W0, W0 = col (cut (bf m) k) q := ⟨_, rfl⟩
      have hW0l : W0 < 4294967296 := by rw [hW0]; exact col_lt (cut_lt (bf_lt m) k) q
      rw [← hW0, ← hv] at hst
      have hor := u32_or_nat W0 v hW0l hvl
      have hct : wr.cell? ⟨w.heap.size + 1, q, none⟩ = some (.int .u32 (W0 : Int)) := cell_of HROW.out q _ (by rw [qF_get _ q hq4, hW0])
      have hft : wr.frozen? ⟨w.heap.size + 1, q, none⟩ = false := frozen_of_row _ _ _ _ _ HROW.out
      have hwi : IntKind.i64.wrap ((k : Int) + 1) = ((k + 1 : Nat) : Int) := (IntWalk.i64_in _ (by omega)).trans (by omega)
      have HW : Hid ((wr.setCell ⟨w.heap.size + 1, q, none⟩ (.int .u32 ((W0 ||| v : Nat) : Int))).heap[w.heap.size + 1]? = some (.cells (qF (col (cut (bf m) (k + 1)))) SQT (0, 0))) := hid ((block_set HROW.out q _).trans (by
        rw [qF_set _ _ _ hq4]
        congr 2
        refine qF_congr fun j _ => ?_
        by_cases h : j = q
        · subst h; rw [if_pos rfl, hst]
        · rw [if_neg h, cut_other _ _ _ (by rw [← hq]; exact h)]))
      clear hst hv hW0 hW0l hvl hy hyb hyl hq hr hs hr4 hq4
      go_wp2
      refine wp_region_still_tail 11 (by kernel_rfl) (by kernel_rfl) ?_
      simp only [List.take_succ_cons, List.take_zero, List.drop_succ_cons, List.drop_zero]
      repeat still_step
      refine wpStill_nil ?_
      change wpList _ _ _ _ _ wr.drew
      go_wp2
      have hk := HK.out
      go_roundg (16 - k - 1)
      case measure => omega
      case rel => exact ⟨k + 1, by omega, rfl, HW.out, (heap_setCell_other _ _ _ _ (by simp)).trans HRES.out, (HB.out.setCell (by simp) _).drew⟩
    · have hk16 : k = 16 := by omega
      have H0' : Hid (wr.heap[w.heap.size + 1]? = some (.cells (qF (col (bf m))) SQT (0, 0))) := hid (HROW.out.trans (by
        congr 2
        exact qF_congr fun j hj => cut_all _ k j (by omega) hj))
      have hxi : ¬ (k : Int) < 16 := by omega
      have HI2 : Hid ((Try.prog.info? 44).map (·.size) = some (qF (col (bf m))).size) := hid (info4Q.trans (congrArg some (qF_size _).symm))
      have HZ : Hid ((qF fun _ => 0).size = (qF (col (bf m))).size) := hid rfl
      have HO : Hid ((qF (col (bf m))).all (·.oneCell') = true) := hid (qF_one _)
      clear hk16 HROW
      go_wp2_with (first
        | (with_reducible refine wpList_load_row rfl SQT (.tmp 3) rfl (w.heap.size + 1) rfl SQT (qF (col (bf m))) (0, 0) _ H0'.out undQ rfl HI2.out ?_)
        | (with_reducible refine wpList_store_row rfl SQT (.tmp 2) _ rfl w.heap.size (qF (col (bf m))) rfl rfl SQT (qF fun _ => 0) HRES.out HI2.out HZ.out HO.out ?_))
      refine bodyPost_ret (v := .agg (qF (col (bf m)))) (results_cell_row rfl _ _ w.heap.size SQT (qF (col (bf m))) (0, 0) _ rfl (setRow_heap _ _ _ _ _ _ HRES.out) undQ rfl HI2.out) rfl ⟨rfl, ?_⟩
      exact belowRow HB.out (by omega) _
end Go.Proofs.Ytfjcedfjfadfpaa
