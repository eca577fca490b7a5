/-
  Package long: through whole blocks.
-/
import Derived.Test.YtokggppfobbblaaDoorLon3
import Derived.Test.YtokggppfobbblaaDoorSha4
namespace Go.Proofs.YtokggppfobbblaaDoor
open Go.RowKit
set_option linter.unusedVariables false
set_option linter.unusedSimpArgs false

theorem agg8L (w : World) : (isAgg 68).run Tryd.prog w = .ok true w := by
  have hu := run_underlying (P := Tryd.prog) Tryd.underlying68 w
  simp [isAgg, hu]
theorem size8L (w : World) : (sizeOf 68).run Tryd.prog w = .ok 8 w := by
  have h := info8L
  cases hq : Tryd.prog.info? 68 with
  | none => simp [hq] at h
  | some i => have hs : i.size = 8 := by simpa [hq] using h
              simp [sizeOf, typeInfo, hq, hs]

/-- What holds at the label, k blocks gone through. -/
def ThruL (w : World) (A : Option Addr) (s : St) (xs : List UInt8) (z8 : Array Value) (A' : Option Addr) (n c' k : Nat) (w' : World) : Prop :=
  128 * k ≤ xs.length ∧ n = xs.length - 128 * k ∧ Sq w' w.heap.size A' c' (bvs (xs.drop (128 * k))) ∧ w'.heap[w.heap.size]? = some (.cells (stL (blocksL kTabL k s xs)) A8L (0, 0)) ∧
    w'.heap[w.heap.size + 1]? = some (.cells z8 A8L (0, 0)) ∧ Below w.heap.size w w' ∧ SameBlk A A'

/-- A state laid anew, cell by cell. -/
def lay8L (w : World) (g : Nat) (t : St) : World := (((((((w.setCell ⟨g, 0, none⟩ (.int .u64 (t.a : Int))).setCell ⟨g, 1, none⟩ (.int .u64 (t.b : Int))).setCell ⟨g, 2, none⟩ (.int .u64 (t.c : Int))).setCell ⟨g, 3, none⟩ (.int .u64 (t.d : Int))).setCell ⟨g, 4, none⟩ (.int .u64 (t.e : Int))).setCell ⟨g, 5, none⟩ (.int .u64 (t.f : Int))).setCell ⟨g, 6, none⟩ (.int .u64 (t.g : Int))).setCell ⟨g, 7, none⟩ (.int .u64 (t.h : Int))
theorem lay8L_row {w : World} {g : Nat} {s : St} (t : St) (h : w.heap[g]? = some (.cells (stL s) A8L (0, 0))) : (lay8L w g t).heap[g]? = some (.cells (stL t) A8L (0, 0)) :=
  by
  have h0 := block_set h 0 (.int .u64 (t.a : Int))
  have h1 := block_set h0 1 (.int .u64 (t.b : Int))
  have h2 := block_set h1 2 (.int .u64 (t.c : Int))
  have h3 := block_set h2 3 (.int .u64 (t.d : Int))
  have h4 := block_set h3 4 (.int .u64 (t.e : Int))
  have h5 := block_set h4 5 (.int .u64 (t.f : Int))
  have h6 := block_set h5 6 (.int .u64 (t.g : Int))
  have h7 := block_set h6 7 (.int .u64 (t.h : Int))
  simpa [lay8L, stL, St.list, uvs] using h7
theorem lay8L_other {w : World} {g k : Nat} (t : St) (h : k ≠ g) : (lay8L w g t).heap[k]? = w.heap[k]? := by
  unfold lay8L
  rw [heap_setCell_other _ _ _ _ h, heap_setCell_other _ _ _ _ h, heap_setCell_other _ _ _ _ h, heap_setCell_other _ _ _ _ h, heap_setCell_other _ _ _ _ h, heap_setCell_other _ _ _ _ h, heap_setCell_other _ _ _ _ h, heap_setCell_other _ _ _ _ h]
theorem lay8L_below {B : Nat} {a w : World} {g : Nat} (t : St) (h : Below B a w) (hg : B ≤ g) : Below B a (lay8L w g t) :=
  (((((((h.setCell hg _).setCell hg _).setCell hg _).setCell hg _).setCell hg _).setCell hg _).setCell hg _).setCell hg _
theorem ThruL.next {w : World} {A : Option Addr} {s : St} {xs : List UInt8} {z8 : Array Value} {b' o' n c' k : Nat} {w' w3 : World} (hT : ThruL w A s xs z8 (some ⟨b', o', none⟩) n c' k w') (hn : 128 ≤ n) (hb3 : Below w'.heap.size w'.drew w3)
    (t : St) (ht : t = mixL kTabL (blocksL kTabL k s xs) ((xs.drop (128 * k)).take 128)) (A2 : Option Addr) (hA2 : A2 = if c' = 128 then some ⟨b', o', none⟩ else some ⟨b', o' + 128, none⟩) :
    ThruL w A s xs z8 A2 (n - 128) (c' - 128) (k + 1) (lay8L w3 w.heap.size t) := by
  obtain ⟨h1, h2, hsl, hr, hr2, hb, hsb⟩ := hT
  have hcap := hsl.cap
  rw [bvs_length, List.length_drop] at hcap
  have hlt : w.heap.size + 1 < w'.heap.size := block_lt hr2
  have hbw : Below w.heap.size w w3 := (hb.drew).trans (hb3.mono (by omega))
  have hsl3 : Sq w3 w.heap.size (some ⟨b', o', none⟩) c' (bvs (xs.drop (128 * k))) := hsl.below ((Below.refl w.heap.size w').drew.trans (hb3.mono (by omega)))
  have hr3 : w3.heap[w.heap.size]? = some (.cells (stL (blocksL kTabL k s xs)) A8L (0, 0)) := (hb3.block w.heap.size (by omega)).trans hr
  refine ⟨by omega, by omega, ?_, ?_, ?_, lay8L_below t hbw (Nat.le_refl _), ?_⟩
  · refine Sq.below ?_ (lay8L_below t (Below.refl w.heap.size w3) (Nat.le_refl _))
    by_cases hc : c' = 128
    · rw [hA2, if_pos hc]
      have := hsl3.end_ 128
      rw [List.drop_eq_nil_of_le (by omega)]
      exact this
    · rw [hA2, if_neg hc]
      have h64 := hsl3.drop 128 (by omega)
      have e : (bvs (xs.drop (128 * k))).drop 128 = bvs (xs.drop (128 * (k + 1))) := by
        simp only [bvs, ← List.map_drop, List.drop_drop]
        rw [show 128 * k + 128 = 128 * (k + 1) by omega]
      rw [← e]; exact h64
  · rw [blocksL_next, ← ht]; exact lay8L_row t hr3
  · rw [lay8L_other t (by omega)]
    exact (hb3.block (w.heap.size + 1) hlt).trans hr2
  · intro b o sp h
    obtain ⟨o0, sp0, he⟩ := hsb b' o' none rfl
    rw [hA2] at h
    split at h <;> (simp only [Option.some.injEq, Addr.mk.injEq] at h; rw [← h.1]; exact ⟨o0, sp0, he⟩)

set_option maxRecDepth 100000 in
set_option maxHeartbeats 800000 in
theorem throughL_any (s : St) (A : Option Addr) (xs : List UInt8) (c : Nat) (w : World) (hs : s.okL) (hA : Sq w w.heap.size A c (bvs xs)) (hg : GlobL w) :
    Calls Tryd.prog 48 #[.agg (stL s), .slice A xs.length c] w fun e w' => ∃ A' c', e = .returned (.tuple #[.agg (stL (blocksL kTabL (xs.length / 128) s xs)), .slice A' (xs.length % 128) c']) ∧
      Sq w' w.heap.size A' c' (bvs (xs.drop (128 * (xs.length / 128)))) ∧ Below w.heap.size w w' ∧ SameBlk A A' := by
  have HA := hid hA
  have HG := hid hg
  have HS := hid hs
  clear hA hg hs
  go_enter Tryd.func48, Tryd.ntmps48
  go_wp2
  obtain ⟨z8, hz8⟩ : ∃ z8 : Array Value, z8 = #[Value.int .u64 0, .int .u64 0, .int .u64 0, .int .u64 0, .int .u64 0, .int .u64 0, .int .u64 0, .int .u64 0] := ⟨_, rfl⟩
  rw [← hz8]
  have hz8s : z8.size = 8 := by rw [hz8]; rfl
  have HZ8 := hid hz8s
  clear hz8 hz8s
  go_loopg [1] (xs.length + 1) (fun g v w' => ∃ (k n : Nat) (A' : Option Addr) (c' : Nat), v = .slice A' n c' ∧ g = n + 1 ∧ ThruL w A s xs z8 A' n c' k w')
  case atStart =>
    refine ⟨0, xs.length, A, c, rfl, rfl, ?_⟩
    refine ⟨by omega, by omega, ?_, heap_alloc2_old w _ _, heap_alloc2_new w _ _, ((Below.refl _ _).alloc (Nat.le_refl _) _).alloc (by simp) _, fun b o sp h => ⟨o, sp, h⟩⟩
    exact (HA.out.alloc (Nat.le_refl _) _).alloc (by simp) _
  case round =>
    obtain ⟨k, n, A', c', rfl, hgk, hT⟩ := hrel
    have HGK := hid hgk
    obtain ⟨w', rfl⟩ : ∃ w' : World, w' = wr := ⟨_, rfl⟩
    have HT := hid hT
    clear hT hgk
    obtain ⟨st, hst⟩ : ∃ st, st = blocksL kTabL k s xs := ⟨_, rfl⟩
    have hrow : w'.heap[w.heap.size]? = some (.cells (stL st) A8L (0, 0)) := by rw [hst]; exact HT.out.2.2.2.1
    have hrow2 : w'.heap[w.heap.size + 1]? = some (.cells z8 A8L (0, 0)) := HT.out.2.2.2.2.1
    have hso : st.okL := by rw [hst]; exact blocksL_okay _ _ _ _ HS.out
    have HR := hid hrow; have HR2 := hid hrow2; have HSO := hid hso; have HST := hid hst
    clear hrow hrow2 hso hst
    by_cases hlt : n < 128
    · have hx : ¬ (128 : Int) ≤ (n : Int) := by omega
      have HI : Hid ((Tryd.prog.info? 68).map (·.size) = some (stL st).size) := hid (info8L.trans (congrArg some (stL_size _).symm))
      have HZ : Hid (z8.size = (stL st).size) := hid (HZ8.out.trans (stL_size _).symm)
      have HO := hid (stL_one st)
      go_wp2_with (first
        | (with_reducible refine wpList_load_row rfl 68 (.tmp 2) rfl w.heap.size rfl A8L (stL st) (0, 0) _ HR.out Tryd.underlying68 rfl HI.out ?_)
        | (with_reducible refine wpList_store_row rfl 68 (.tmp 4) _ rfl (w.heap.size + 1) (stL st) rfl rfl A8L z8 HR2.out HI.out HZ.out HO.out ?_))
      have hload := run_loadVar_row (P := Tryd.prog) (w'.setRow (w.heap.size + 1) (stL st)) (w.heap.size + 1) A8L 68 (stL st) (0, 0) _ (setRow_heap _ _ _ _ _ _ HR2.out) Tryd.underlying68 rfl HI.out
      obtain ⟨hk1, hk2, hsl, _, _, hbl, hsb⟩ := HT.out
      have hq : xs.length / 128 = k ∧ xs.length % 128 = n := by omega
      have hfin : stL (blocksL kTabL (xs.length / 128) s xs) = stL st := by rw [hq.1, HST.out]
      refine bodyPost_ret (v := .tuple #[.agg (stL st), .slice A' n c']) (by simp [results, Tryd.results48, asAddr, hload]) rfl ⟨A', c', ?_, ?_, below_setRow hbl (by omega) _, hsb⟩
      · rw [hfin, hq.2]
      · rw [hq.1]
        exact hsl.below (below_setRow (Below.refl _ _) (by omega) _)
    · have hx : (128 : Int) ≤ (n : Int) := by omega
      obtain ⟨hk1, hk2, hsl, _, _, hbl, hsb⟩ := HT.out
      have hcap := hsl.cap
      rw [bvs_length, List.length_drop, ← hk2] at hcap
      obtain ⟨b', o', rfl, hb'⟩ := hsl.form (by rw [bvs_length, List.length_drop]; omega)
      have hm64 : ((xs.drop (128 * k)).take 128).length = 128 := by rw [List.length_take, List.length_drop]; omega
      have hLie : Lie w' w.heap.size (some ⟨b', o', none⟩) (bvs ((xs.drop (128 * k)).take 128)) := by
        have := hsl.lie.take 128
        simpa [bvs, List.map_take] using this
      have hsz : w.heap.size + 1 < w'.heap.size := block_lt HR2.out
      have hG : GlobL w' := HG.out.below hbl (Nat.le_refl _)
      have HLIE := hid hLie; have HM := hid hm64; have HG' := hid hG; have HSL := hid hsl; have HBL := hid hbl
      clear hsb
      obtain ⟨hc1, hc2⟩ := hcap
      have hcx : (128 : Int) ≤ (c' : Int) := by omega
      have hncx : (n : Int) ≤ (c' : Int) := by omega
      clear hk1 hk2 hsl hbl hLie hm64 hG
      obtain ⟨sa, sb, sc, sd, se, sf, sg, sh⟩ := st
      have hcs : ∀ j x, (stL ⟨sa, sb, sc, sd, se, sf, sg, sh⟩)[j]? = some x → w'.cell? ⟨w.heap.size, j, none⟩ = some x := fun j x h => cell_of HR.out j x h
      have hc0 : w'.cell? ⟨w.heap.size, 0, none⟩ = some (.int .u64 (sa : Int)) := hcs 0 _ rfl
      have hc1' : w'.cell? ⟨w.heap.size, 1, none⟩ = some (.int .u64 (sb : Int)) := hcs 1 _ rfl
      have hc2' : w'.cell? ⟨w.heap.size, 2, none⟩ = some (.int .u64 (sc : Int)) := hcs 2 _ rfl
      have hc3 : w'.cell? ⟨w.heap.size, 3, none⟩ = some (.int .u64 (sd : Int)) := hcs 3 _ rfl
      have hc4 : w'.cell? ⟨w.heap.size, 4, none⟩ = some (.int .u64 (se : Int)) := hcs 4 _ rfl
      have hc5 : w'.cell? ⟨w.heap.size, 5, none⟩ = some (.int .u64 (sf : Int)) := hcs 5 _ rfl
      have hc6 : w'.cell? ⟨w.heap.size, 6, none⟩ = some (.int .u64 (sg : Int)) := hcs 6 _ rfl
      have hc7 : w'.cell? ⟨w.heap.size, 7, none⟩ = some (.int .u64 (sh : Int)) := hcs 7 _ rfl
      clear hcs
      have hag : ∀ W, (isAgg 68).run Tryd.prog W = .ok true W := agg8L
      have hsi : ∀ W, (sizeOf 68).run Tryd.prog W = .ok 8 W := size8L
      obtain ⟨mx, hmx⟩ : ∃ mx, mx = mixL kTabL ⟨sa, sb, sc, sd, se, sf, sg, sh⟩ ((xs.drop (128 * k)).take 128) := ⟨_, rfl⟩
      have hcall := mixedL_any ⟨sa, sb, sc, sd, se, sf, sg, sh⟩ b' o' ((xs.drop (128 * k)).take 128) c' w'.drew HSO.out HM.out (by omega) (by omega) (by show b' < w'.heap.size; omega) ((HLIE.out.more (by omega) : Lie w' w'.heap.size _ _)) HG'.out
      rw [← hmx] at hcall
      have HMX := hid hmx
      clear hmx
      obtain ⟨ta, tb, tc, td, te, tf, tg, th⟩ := mx
      have HC : Hid (Calls Tryd.prog 47 #[.agg #[.int .u64 (sa : Int), .int .u64 (sb : Int), .int .u64 (sc : Int), .int .u64 (sd : Int), .int .u64 (se : Int), .int .u64 (sf : Int), .int .u64 (sg : Int), .int .u64 (sh : Int)], .slice (some ⟨b', o', none⟩) 128 c'] w'.drew fun e w3 => e = .returned (.agg #[.int .u64 (ta : Int), .int .u64 (tb : Int), .int .u64 (tc : Int), .int .u64 (td : Int), .int .u64 (te : Int), .int .u64 (tf : Int), .int .u64 (tg : Int), .int .u64 (th : Int)]) ∧ Below w'.heap.size w'.drew w3) := hid hcall
      clear hcall
      by_cases hc64 : c' = 128
      · subst hc64
        obtain rfl : n = 128 := by omega
        clear hcx hncx
        go_wp2
        go_region_law (first
          | (go_simp; go_at_call 47; refine HC.out.mono ?_; rintro e w3 ⟨rfl, hb3⟩
             have hk3 : ∀ j, w3.cell? ⟨w.heap.size, j, none⟩ = w'.cell? ⟨w.heap.size, j, none⟩ := fun j => hb3.cell (p := ⟨w.heap.size, j, none⟩) (by show w.heap.size < w'.heap.size; omega)
             have hf3 : ∀ j, w3.frozen? ⟨w.heap.size, j, none⟩ = w'.frozen? ⟨w.heap.size, j, none⟩ := fun j => hb3.frozen (p := ⟨w.heap.size, j, none⟩) (by show w.heap.size < w'.heap.size; omega)
             have hfz : ∀ j, w'.frozen? ⟨w.heap.size, j, none⟩ = false := fun j => frozen_of_row _ _ _ _ _ HR.out
             have HB3 := hid hb3
             clear hb3))
        have HN := hid (ThruL.next HT.out (by omega) HB3.out ⟨ta, tb, tc, td, te, tf, tg, th⟩ (by rw [HMX.out, ← HST.out]) _ rfl)
        rw [if_pos rfl] at HN
        go_wp2
        have hgk := HGK.out
        go_roundg 1
        case measure => omega
        case rel => exact ⟨k + 1, 0, _, 0, rfl, rfl, HN.out⟩
      · go_wp2
        go_region_law (first
          | (go_simp; go_at_call 47; refine HC.out.mono ?_; rintro e w3 ⟨rfl, hb3⟩
             have hk3 : ∀ j, w3.cell? ⟨w.heap.size, j, none⟩ = w'.cell? ⟨w.heap.size, j, none⟩ := fun j => hb3.cell (p := ⟨w.heap.size, j, none⟩) (by show w.heap.size < w'.heap.size; omega)
             have hf3 : ∀ j, w3.frozen? ⟨w.heap.size, j, none⟩ = w'.frozen? ⟨w.heap.size, j, none⟩ := fun j => hb3.frozen (p := ⟨w.heap.size, j, none⟩) (by show w.heap.size < w'.heap.size; omega)
             have hfz : ∀ j, w'.frozen? ⟨w.heap.size, j, none⟩ = false := fun j => frozen_of_row _ _ _ _ _ HR.out
             have HB3 := hid hb3
             clear hb3))
        have HN := hid (ThruL.next HT.out (by omega) HB3.out ⟨ta, tb, tc, td, te, tf, tg, th⟩ (by rw [HMX.out, ← HST.out]) _ rfl)
        rw [if_neg hc64] at HN
        go_wp2
        have hgk := HGK.out
        go_roundg (n - 128 + 1)
        case measure => omega
        case rel => exact ⟨k + 1, n - 128, _, c' - 128, rfl, rfl, HN.out⟩
end Go.Proofs.YtokggppfobbblaaDoor
