/-
  Texts of this claim in one file: Lon7, Lon8.
-/
import Derived.Test.YtgehfbcagaaggaaGreatDoorPk13
import Derived.Test.YtgehfbcagaaggaaGreatDoorPk12
section
namespace Go.Proofs.YtgehfbcagaaggaaGreatDoor
open Go.RowKit
set_option linter.unusedVariables false
set_option linter.unusedSimpArgs false
theorem ivL_range {w : World} (h : GlobL w) : w.rangeAt 0 0 (uvs ivL.list) := fun j v hv => by
  rw [Nat.zero_add]
  exact h.2.1 j v (by rw [stL, List.getElem?_toArray]; exact hv)
/-- What holds ahead of a part, all of what is ahead of it gone through. -/
def DigL (w : World) (z64 : Array Value) (all : List UInt8) (len v : Value) (wr : World) : Prop :=
  len = .int .u64 (all.length : Int) ∧ OwnB wr (w.heap.size + 2) v (tailOfL all) ∧ wr.heap[w.heap.size + 1]? = some (.cells (stL (stOfL all)) A8L (0, 0)) ∧
  wr.heap[w.heap.size]? = some (.cells z64 A64B (0, 0)) ∧ Below w.heap.size w wr ∧ w.heap.size + 2 ≤ wr.heap.size
theorem own_cut0 {w : World} {B n c : Nat} {A : Option Addr} {xs : List UInt8} (h : OwnB w B (.slice A n c) xs) (hx : 0 < xs.length) : OwnB w B (.slice A 0 c) [] := by
  obtain ⟨hl, h⟩ := h
  rcases h with ⟨h1, h2⟩ | ⟨g, cap, cur, hv, h1, h2, h3, h4, h5, h6⟩
  · omega
  · refine ⟨rfl, .inr ⟨g, cap, cur, ?_, h1, h2, by simp, h4, h5, by simp [bvs]⟩⟩
    simp only [Value.slice.injEq] at hv
    obtain ⟨e1, _, e3⟩ := hv
    rw [e1, e3]; rfl
theorem own_moved {w w' : World} {base : Nat} {e : TypeId} {size n : Nat} {v : Value} {xs : List Value} (h : w.ownsRow base e size v n xs) (hk : ∀ g, v.ownBlock = some g → w'.heap[g]? = w.heap[g]?) : w'.ownsRow base e size v n xs := by
  obtain ⟨h1, h2⟩ := h
  refine ⟨h1, ?_⟩
  rcases h2 with h2 | ⟨g, cap, cur, hv, hb, hg, r⟩
  · exact .inl h2
  · exact .inr ⟨g, cap, cur, hv, hb, (hk g (by rw [hv]; rfl)).trans hg, r⟩
theorem sq_blk {w : World} {B B' c : Nat} {A : Option Addr} {xs : List Value} (h : Sq w B A c xs) (hs : ∀ b o sp, A = some ⟨b, o, sp⟩ → b < B') : Sq w B' A c xs := by
  rcases h with h | ⟨b, o, hA, hb, h1, h2, hc⟩
  · exact .inl h
  · exact .inr ⟨b, o, hA, hs b o none hA, h1, h2, hc⟩
theorem closedL_any (s : St8) (A : Option Addr) (r : List UInt8) (c n : Nat) (w : World) (hs : s.okL) (hr : r.length < 128) (hrn : r.length = n % 128) (hn : n ≤ 1152921504606846976) (hA : Lie w w.heap.size A (bvs r)) (hg : GlobL w) :
    Calls Tryz.prog 123 #[.agg (stL s), .slice A r.length c, .int .u64 (n : Int)] w fun e w' => e = .returned (.agg (byA (closeSL s r n).bytesL)) ∧ Below w.heap.size w w' := by
  by_cases h : r.length < 112
  · exact closedL_128 s A r c n w hs h hrn hn hA hg
  · exact closedL_256 s A r c n w hs (by omega) hr hrn hn hA hg
set_option maxRecDepth 100000 in
set_option maxHeartbeats 1600000 in
theorem digest_any (A : Option Addr) (ls : List (List UInt8)) (c : Nat) (w : World) (hA : Rows2' w w.heap.size A ls) (hG : GlobL w) (hl : ls.length ≤ 9223372036854775807) (hn : ls.flatten.length ≤ 1152921504606846976) :
    Calls Tryz.prog 96 #[.slice A ls.length c] w fun e w' => e = .returned (.agg (byA (longB ls.flatten))) ∧ Below w.heap.size w w' := by
  have HA := hid hA; have HG := hid hG; have HN := hid hn
  obtain ⟨i0, hi, hz0, hz1, hz2⟩ := info_parts infoU8
  obtain ⟨z64, hz64⟩ : ∃ z : Array Value, z = (List.replicate 64 (Value.int .u8 0)).toArray := ⟨_, rfl⟩
  have hz64s : z64.size = 64 := by rw [hz64]; simp
  have hzero : ∀ W : World, (zeroValue 97).run Tryz.prog W = .ok (.agg z64) W := fun W => by
    rw [hz64]
    exact (zero_of_info (P := Tryz.prog) (t := 97) (v := .agg (List.replicate 64 (Value.int .u8 0)).toArray) (n := 64) (by kernel_rfl)).1 W
  have HI : Hid ((Tryz.prog.info? 141).map (·.size) = some (uvs ivL.list).length) := hid (info8L.trans (congrArg some (by simp)))
  have HI2 : Hid ((Tryz.prog.info? 141).map (·.size) = some (stL ivL).size) := hid (info8L.trans (congrArg some (stL_size _).symm))
  have HO := hid (stL_one ivL)
  have H8 : Hid ((#[Value.int .u64 0, .int .u64 0, .int .u64 0, .int .u64 0, .int .u64 0, .int .u64 0, .int .u64 0, .int .u64 0] : Array Value).size = (stL ivL).size) := hid (stL_size _).symm
  have HR : Hid (∀ c d : Array Value, ((w.alloc (.cells c A64B)).alloc (.cells d A8L)).rangeAt 0 0 (uvs ivL.list)) := hid fun c d => World.rangeAt_alloc (World.rangeAt_alloc (ivL_range hG) _) _
  have HR' : Hid (∀ c : Array Value, (w.alloc (.cells c A64B)).rangeAt 0 0 (uvs ivL.list)) := hid fun c => World.rangeAt_alloc (ivL_range hG) _
  have HZ64 := hid hz64; have HZS := hid hz64s
  clear hA hG hn hz64 hz64s
  go_enter Tryz.func96, Tryz.ntmps96
  go_wp2_with (first
    | (with_reducible refine wpList_load_mid rfl 141 (.global 0) rfl 0 0 rfl (uvs ivL.list) _ (HR'.out _) Tryz.underlying141 rfl HI.out ?_)
    | (with_reducible refine wpList_store_row rfl 141 (.tmp 3) _ rfl (w.heap.size + 1) (stL ivL) rfl rfl A8L _ ?h0 HI2.out H8.out HO.out ?_)
    | (at_make; refine wpList_make_own _ rfl _ _ 22 rfl (w.heap.size + 2) 5 i0 (.int .u8 0) 1 Tryz.underlying22 hi hz0 hz1 _ _ _ 128 rfl rfl ?c1 ?c2 ?c3 ?c4 ?_))
  case h0 => exact heap_alloc2_new w _ _
  case c1 => rfl
  case c2 => rw [hz2]; omega
  case c3 => unfold maxLen; omega
  case c4 => simp
  intro w1 hown1 hg1
  clear hzero
  have hb0 : Below w.heap.size w (((w.alloc (.cells z64 A64B)).alloc (.cells #[.int .u64 0, .int .u64 0, .int .u64 0, .int .u64 0, .int .u64 0, .int .u64 0, .int .u64 0, .int .u64 0] A8L)).setRow (w.heap.size + 1) (stL ivL)) :=
    below_setRow (((Below.refl _ _).alloc (Nat.le_refl _) _).alloc (by simp) _) (by omega) _
  have hs0 : (((w.alloc (.cells z64 A64B)).alloc (.cells #[.int .u64 0, .int .u64 0, .int .u64 0, .int .u64 0, .int .u64 0, .int .u64 0, .int .u64 0, .int .u64 0] A8L)).setRow (w.heap.size + 1) (stL ivL)).heap[w.heap.size + 1]? = some (.cells (stL ivL) A8L (0, 0)) :=
    setRow_heap _ _ _ _ _ _ (heap_alloc2_new w _ _)
  have hr0 : (((w.alloc (.cells z64 A64B)).alloc (.cells #[.int .u64 0, .int .u64 0, .int .u64 0, .int .u64 0, .int .u64 0, .int .u64 0, .int .u64 0, .int .u64 0] A8L)).setRow (w.heap.size + 1) (stL ivL)).heap[w.heap.size]? = some (.cells z64 A64B (0, 0)) :=
    (setRow_other _ _ _ _ (by omega)).trans (heap_alloc2_old w _ _)
  have hz0' : (((w.alloc (.cells z64 A64B)).alloc (.cells #[.int .u64 0, .int .u64 0, .int .u64 0, .int .u64 0, .int .u64 0, .int .u64 0, .int .u64 0, .int .u64 0] A8L)).setRow (w.heap.size + 1) (stL ivL)).heap.size = w.heap.size + 2 := by rw [size_setRow]; simp
  generalize ((w.alloc (.cells z64 A64B)).alloc (.cells #[.int .u64 0, .int .u64 0, .int .u64 0, .int .u64 0, .int .u64 0, .int .u64 0, .int .u64 0, .int .u64 0] A8L)).setRow (w.heap.size + 1) (stL ivL) = w0 at *
  have hD : DigL w z64 [] (.int .u64 0) (.slice (some ⟨w.heap.size + 1 + 1, 0, none⟩) 0 128) w1 :=
    ⟨rfl, hown1, (hg1.block _ (by omega) (by simp)).trans hs0, (hg1.block _ (by omega) (by simp)).trans hr0, hb0.grown hg1 (by omega) (fun q h => by cases h), by have := hg1.size; omega⟩
  have HD := hid hD
  clear hD hown1 hg1 hb0 hs0 hr0 hz0 hz1 hz2 hi HR HR' HI HI2 HO H8
  go_wp2
  go_loopg [4, 5, 13] ls.length (fun r len v i wr => ∃ k : Nat, k + r = ls.length ∧ i = .int .i64 (k : Int) ∧ DigL w z64 (ls.take k).flatten len v wr)
  case atStart => exact ⟨0, by omega, rfl, HD.out⟩
  case round =>
    clear HD
    obtain ⟨k, hk, rfl, rfl, hown, hst, hres, hbel, hsz⟩ := hrel
    obtain ⟨wo, rfl⟩ : ∃ wo : World, wo = wr := ⟨_, rfl⟩
    obtain ⟨all, hall⟩ : ∃ all, all = (ls.take k).flatten := ⟨_, rfl⟩
    rw [← hall] at hown hst ⊢
    have hal : all.length ≤ 1152921504606846976 := by rw [hall]; exact Nat.le_trans (flatten_le ls k) HN.out
    have HK := hid hk; have HST := hid hst; have HRES := hid hres; have HB := hid hbel; have HAL := hid hall
    have hul : (tailOfL all).length = all.length % 128 := tailOfL_length all
    clear hk hst hres hbel hall
    by_cases hlt : k < ls.length
    · obtain ⟨b, o, A1, c1, hAe, hb1, hc, hS⟩ := (HA.out.below HB.out).at_ hlt
      obtain ⟨p, hp⟩ : ∃ p, p = ls[k] := ⟨_, rfl⟩
      rw [← hp] at hc hS
      have hft := flatten_take ls k hlt
      have hfl := flatten_le ls (k + 1)
      rw [hft, ← HAL.out, ← hp] at hfl
      rw [List.length_append] at hfl
      rw [← HAL.out, ← hp] at hft
      have hpl : all.length + p.length ≤ 1152921504606846976 := Nat.le_trans hfl HN.out
      have hx : (k : Int) < (ls.length : Int) := by omega
      have hk0 : (0 : Int) ≤ (k : Int) := by omega
      have HFT := hid hft; have HS := hid hS; have HUL := hid hul
      obtain ⟨u, hu⟩ : ∃ u, u = all.length % 128 := ⟨_, rfl⟩
      have hu128 : u < 128 := by omega
      rw [← hu] at hul
      have HU := hid hu; have HUL := hid hul
      obtain ⟨Ao, co, rfl, hSo⟩ := own_sl hown
      subst hAe
      have hob : (tailOfL all).length = u := HUL.out
      have hO : wo.ownsRow (w.heap.size + 2) 5 1 (.slice Ao u co) u (bvs (tailOfL all)) := by
        have h := hown
        unfold OwnB at h
        rwa [hob] at h
      have HO := hid hO
      rw [hob]
      have hcap := hS.cap
      rw [bvs_length] at hcap
      obtain ⟨hcap1, hcap2⟩ := hcap
      clear hft hfl hS hul hp hu hSo hown hob hO
      by_cases hlt2 : u + p.length < 128
      · have hm : (p.length : Int) ≤ 128 - (u : Int) := by omega
        have hp128 : (p.length : Int) < 128 := by omega
        have hu0 : (0 : Int) ≤ (u : Int) := by omega
        have hpc : (p.length : Int) ≤ (c1 : Int) := by omega
        go_wp2_with (at_builtin; refine wpList_append_lie rfl (.tmp 28) (.tmp 31) 22 rfl (w.heap.size + 2) 5 (.int .u8 0) 1 Tryz.underlying22 infoU8 rfl rfl HO.out (bvs_length p) rfl HS.out.lie (bvs_one p) ?d1 ?d2 ?d3 ?_)
        case d1 => unfold maxLen; omega
        case d2 => omega
        case d3 => omega
        intro v2 w2 hown2 hg2 hat2
        obtain ⟨A2, c2, rfl, _⟩ := own_sl hown2
        have hps := partL_state all p (by rw [← HU.out]; exact hlt2)
        have hge : ∀ q, (Value.slice Ao u co).ownBlock = some q → w.heap.size + 2 ≤ q := own_lt HO.out
        have hB2 : Below w.heap.size w w2 := HB.out.grown hg2 HB.out.size (fun q hq => by have := hge q hq; omega)
        have hD2 : DigL w z64 (all ++ p) (.int .u64 ((all.length : Int) + (p.length : Int))) (.slice A2 (u + p.length) c2) w2 := by
          refine ⟨by simp, ?_, ?_, ?_, hB2, Nat.le_trans hsz hg2.size⟩
          · rw [hps.2]; unfold OwnB; rw [List.length_append, HUL.out, bvs_append]; exact hown2
          · rw [hps.1]; exact (hg2.block _ (by omega) (fun e => by have := hge _ e.symm; omega)).trans HST.out
          · exact (hg2.block _ (by omega) (fun e => by have := hge _ e.symm; omega)).trans HRES.out
        have HD2 := hid hD2
        have hup : ((u : Int) + (p.length : Int)) < 128 := by omega
        have hup2 : ((u + p.length : Nat) : Int) < 128 := by omega
        clear hown2 hg2 hat2 hps hge hB2 hD2
        go_wp2
        have hk := HK.out
        go_roundg (ls.length - k - 1)
        case measure => omega
        case rel => exact ⟨k + 1, by omega, by go_num, by rw [HFT.out]; exact HD2.out⟩
      · have hm : (if 128 - (u : Int) < (p.length : Int) then 128 - (u : Int) else (p.length : Int)) = 128 - (u : Int) := by split <;> omega
        have hu0 : (0 : Int) ≤ (u : Int) := by omega
        have hn1 : (0 : Int) ≤ 128 - (u : Int) := by omega
        have hn2 : 128 - (u : Int) ≤ (c1 : Int) := by omega
        have hn3 : (128 - (u : Int)).toNat = 128 - u := by omega
        have hn4 : 128 - (u : Int) ≤ (p.length : Int) := by omega
        have hpt : (bvs (p.take (128 - u))).length = 128 - u := by rw [bvs_length, List.length_take]; omega
        have HSL := hid (show Lie wo w.heap.size A1 (bvs (p.take (128 - u))) by
          have h := HS.out.lie.take (128 - u)
          simpa [bvs, List.map_take] using h)
        have HPT := hid hpt
        clear hpt
        have hpf := HS.out.form (by rw [bvs_length]; omega)
        obtain ⟨bp, op, rfl, hbp⟩ := hpf
        go_wp2_with (at_builtin; refine wpList_append_lie rfl (.tmp 28) (.tmp 31) 22 rfl (w.heap.size + 2) 5 (.int .u8 0) 1 Tryz.underlying22 infoU8 rfl rfl HO.out HPT.out rfl HSL.out (bvs_one _) ?d4 ?d5 ?d6 ?_)
        case d4 => unfold maxLen; omega
        case d5 => omega
        case d6 => omega
        intro v2 w2 hown2 hg2 hat2
        have e128 : u + (128 - u) = 128 := by omega
        obtain ⟨m, hm2⟩ : ∃ m, m = tailOfL all ++ p.take (128 - u) := ⟨_, rfl⟩
        have hml : m.length = 128 := by rw [hm2, List.length_append, HUL.out, List.length_take]; omega
        rw [e128, ← bvs_append, ← hm2] at hown2
        obtain ⟨A2, c2, rfl, hS2⟩ := own_sl hown2
        have hcap2' := hS2.cap
        rw [bvs_length, hml] at hcap2'
        obtain ⟨hc21, hc22⟩ := hcap2'
        obtain ⟨g2, o2, hA2, hg2l⟩ := hS2.sq.form (by rw [bvs_length, hml]; omega)
        have ho2 : o2 = 0 := by
          obtain ⟨g, cap, hv, _, _⟩ := hown2.form (by omega)
          simp only [Value.slice.injEq] at hv
          rw [hA2] at hv
          simp only [Option.some.injEq, Addr.mk.injEq] at hv
          exact hv.1.2.1
        subst hA2
        subst ho2
        have hge : ∀ q, (Value.slice Ao u co).ownBlock = some q → w.heap.size + 2 ≤ q := own_lt HO.out
        have hB2 : Below w.heap.size w w2 := HB.out.grown hg2 HB.out.size (fun q hq => by have := hge q hq; omega)
        have hg22 : w.heap.size + 2 ≤ g2 := own_lt hown2 g2 rfl
        have hST2 : w2.heap[w.heap.size + 1]? = some (.cells (stL (stOfL all)) A8L (0, 0)) := (hg2.block _ (by omega) (fun e => by have := hge _ e.symm; omega)).trans HST.out
        have hRS2 : w2.heap[w.heap.size]? = some (.cells z64 A64B (0, 0)) := (hg2.block _ (by omega) (fun e => by have := hge _ e.symm; omega)).trans HRES.out
        have hsz2 : w.heap.size + 2 ≤ w2.heap.size := Nat.le_trans hsz hg2.size
        have hMX := mixedL_any (stOfL all) g2 0 m c2 w2 (stOfL_ok all) hml hc21 hc22 hg2l hS2.lie (HG.out.below hB2 (Nat.le_refl _))
        have hfs := fillL_state all p (by rw [← HU.out]; omega)
        rw [← HU.out, ← hm2] at hfs
        rw [hfs.1] at hMX
        obtain ⟨st, hst⟩ : ∃ st, st = blocksL kTabL (all.length / 128 + 1) ivL (all ++ p) := ⟨_, rfl⟩
        rw [← hst] at hMX
        have hso : st.okL := by rw [hst]; exact blocksL_okay _ _ _ _ ivL_ok
        have HMX := hid hMX; have HOW2 := hid hown2; have HB2 := hid hB2; have HST2 := hid hST2; have HRS2 := hid hRS2; have HFS := hid hfs; have HSTE := hid hst; have HSO := hid hso; have HML := hid hml
        have HI : Hid ((Tryz.prog.info? 141).map (·.size) = some (stL (stOfL all)).size) := hid (info8L.trans (congrArg some (stL_size _).symm))
        have HI2 : Hid ((Tryz.prog.info? 141).map (·.size) = some (stL st).size) := hid (info8L.trans (congrArg some (stL_size _).symm))
        have HZ : Hid ((stL (stOfL all)).size = (stL st).size) := hid rfl
        have HOS := hid (stL_one st)
        clear hown2 hg2 hat2 hS2 hge hB2 hST2 hRS2 hMX hfs hst hso hm2 hml e128 hm
        go_wp2_with (first
          | fail
          | (with_reducible refine wpList_load_row rfl 141 (.tmp 3) rfl (w.heap.size + 1) rfl A8L (stL (stOfL all)) (0, 0) _ HST2.out Tryz.underlying141 rfl HI.out ?_))
        refine HMX.out.mono ?_
        rintro e w3 ⟨rfl, hb3⟩
        have hST3 : w3.heap[w.heap.size + 1]? = some (.cells (stL (stOfL all)) A8L (0, 0)) := (hb3.block _ (by omega)).trans HST2.out
        have hB3 : Below w.heap.size w (w3.setRow (w.heap.size + 1) (stL st)) := below_setRow (HB2.out.trans (hb3.mono (by omega))) (by omega) _
        have hRS3 : (w3.setRow (w.heap.size + 1) (stL st)).heap[w.heap.size]? = some (.cells z64 A64B (0, 0)) := (setRow_other _ _ _ _ (by omega)).trans ((hb3.block _ (by omega)).trans HRS2.out)
        have hSS3 : (w3.setRow (w.heap.size + 1) (stL st)).heap[w.heap.size + 1]? = some (.cells (stL st) A8L (0, 0)) := setRow_heap _ _ _ _ _ _ hST3
        have hg23 : (w3.setRow (w.heap.size + 1) (stL st)).heap[g2]? = w2.heap[g2]? := (setRow_other _ _ _ _ (by omega)).trans (hb3.block _ hg2l)
        have hz3 : (w3.setRow (w.heap.size + 1) (stL st)).heap.size = w3.heap.size := size_setRow _ _ _
        have hsz3 : w.heap.size + 2 ≤ w3.heap.size := Nat.le_trans hsz2 hb3.size
        have hg2l3 : g2 < w3.heap.size := Nat.lt_of_lt_of_le hg2l hb3.size
        have HST3 := hid hST3; have HB3 := hid hB3; have HRS3 := hid hRS3; have HSS3 := hid hSS3; have HG23 := hid hg23; have HZ3 := hid hz3
        clear hb3 hST3 hB3 hRS3 hSS3 hg23 hz3
        go_wp2_with (first
          | fail
          | (with_reducible refine wpList_store_row rfl 141 (.tmp 3) _ rfl (w.heap.size + 1) (stL st) rfl rfl A8L _ HST3.out HI2.out HZ.out HOS.out ?_))
        generalize w3.setRow (w.heap.size + 1) (stL st) = w4 at *
        obtain ⟨sa, sb, sc, sd, se, sf, sg, sh⟩ := st
        have hu128i : (u : Int) ≤ 128 := by omega
        have hcs : ∀ j x, (stL ⟨sa, sb, sc, sd, se, sf, sg, sh⟩)[j]? = some x → w4.cell? ⟨w.heap.size + 1, j, none⟩ = some x := fun j x h => cell_of HSS3.out j x h
        have hc0 : w4.cell? ⟨w.heap.size + 1, 0, none⟩ = some (.int .u64 (sa : Int)) := hcs 0 _ rfl
        have hc1' : w4.cell? ⟨w.heap.size + 1, 1, none⟩ = some (.int .u64 (sb : Int)) := hcs 1 _ rfl
        have hc2' : w4.cell? ⟨w.heap.size + 1, 2, none⟩ = some (.int .u64 (sc : Int)) := hcs 2 _ rfl
        have hc3 : w4.cell? ⟨w.heap.size + 1, 3, none⟩ = some (.int .u64 (sd : Int)) := hcs 3 _ rfl
        have hc4 : w4.cell? ⟨w.heap.size + 1, 4, none⟩ = some (.int .u64 (se : Int)) := hcs 4 _ rfl
        have hc5 : w4.cell? ⟨w.heap.size + 1, 5, none⟩ = some (.int .u64 (sf : Int)) := hcs 5 _ rfl
        have hc6 : w4.cell? ⟨w.heap.size + 1, 6, none⟩ = some (.int .u64 (sg : Int)) := hcs 6 _ rfl
        have hc7 : w4.cell? ⟨w.heap.size + 1, 7, none⟩ = some (.int .u64 (sh : Int)) := hcs 7 _ rfl
        have hag : ∀ W, (isAgg 141).run Tryz.prog W = .ok true W := agg8L
        have hsi : ∀ W, (sizeOf 141).run Tryz.prog W = .ok 8 W := size8L
        have hz4 : w4.heap.size = w3.heap.size := HZ3.out
        have HZ4 := hid hz4
        obtain ⟨ys, hys⟩ : ∃ ys, ys = p.drop (128 - u) := ⟨_, rfl⟩
        have hyl : ys.length = p.length - (128 - u) := by rw [hys, List.length_drop]
        have hfin : blocksL kTabL (ys.length / 128) ⟨sa, sb, sc, sd, se, sf, sg, sh⟩ ys = stOfL (all ++ p) := by
          rw [HSTE.out, hys, HFS.out.2.1]; exact stL_rest _ _ HFS.out.2.2
        have htail : ys.drop (128 * (ys.length / 128)) = tailOfL (all ++ p) := by
          rw [hys, HFS.out.2.1]; exact tailL_rest _ _ HFS.out.2.2
        have hyb : ys.length % 128 = (tailOfL (all ++ p)).length := by rw [← htail, List.length_drop]; omega
        obtain ⟨tl, htl⟩ : ∃ tl, tl = tailOfL (all ++ p) := ⟨_, rfl⟩
        have htl128 : tl.length < 128 := by rw [htl, tailOfL_length]; omega
        obtain ⟨mx, hmx⟩ : ∃ mx, mx = stOfL (all ++ p) := ⟨_, rfl⟩
        rw [← hmx] at hfin
        rw [← htl] at htail hyb
        have HYS := hid hys; have HYL := hid hyl; have HFIN := hid hfin; have HTAIL := hid htail; have HYB := hid hyb; have HTL := hid htl; have HMXE := hid hmx
        obtain ⟨ta, tb, tc, td, te, tf, tg, th⟩ := mx
        have hS4 : Sq w4 w.heap.size (some ⟨bp, op, none⟩) c1 (bvs p) := by
          exact HS.out.keep fun q r hq => (HB3.out.cell (p := ⟨q, r, none⟩) hq).trans (HB.out.cell (p := ⟨q, r, none⟩) hq).symm
        have HS4 := hid hS4
        have hG4 : GlobL w4 := HG.out.below HB3.out (Nat.le_refl _)
        have HG4 := hid hG4
        clear hcs hz4 hys hyl hfin htail hyb htl hmx hS4 hG4 HST3 HMX HST2 HRS2 HB2
        by_cases hcc : 128 - u = c1
        · have HC : Hid (Calls Tryz.prog 122 #[.agg #[.int .u64 (sa : Int), .int .u64 (sb : Int), .int .u64 (sc : Int), .int .u64 (sd : Int), .int .u64 (se : Int), .int .u64 (sf : Int), .int .u64 (sg : Int), .int .u64 (sh : Int)], .slice (some ⟨bp, op, none⟩) 0 0] w4.drew fun e w5 => ∃ A5 c5, e = .returned (.tuple #[.agg #[.int .u64 (ta : Int), .int .u64 (tb : Int), .int .u64 (tc : Int), .int .u64 (td : Int), .int .u64 (te : Int), .int .u64 (tf : Int), .int .u64 (tg : Int), .int .u64 (th : Int)], .slice A5 tl.length c5]) ∧ Sq w5 w.heap.size A5 c5 (bvs tl) ∧ Below w4.heap.size w4.drew w5) := hid (by
            have h := throughL_any ⟨sa, sb, sc, sd, se, sf, sg, sh⟩ (some ⟨bp, op, none⟩) ys 0 w4.drew HSO.out (show Sq w4 w4.heap.size _ _ _ by
              have h0 : ys = [] := by rw [HYS.out]; exact List.drop_eq_nil_of_le (by omega)
              rw [h0]
              exact .inl ⟨rfl, by omega⟩) HG4.out
            rw [HFIN.out, HTAIL.out, HYB.out, show ys.length = 0 by rw [HYL.out]; omega] at h
            refine h.mono ?_
            rintro e w5 ⟨A5, c5, rfl, h1, h2, h3⟩
            refine ⟨A5, c5, rfl, sq_blk h1 (fun q r sp hq => ?_), h2⟩
            obtain ⟨o0, sp0, h0⟩ := h3 q r sp hq
            simp only [Option.some.injEq, Addr.mk.injEq] at h0
            rw [← h0.1]; exact hbp)
          go_region_law (first
            | (go_simp; go_at_call 122; refine HC.out.mono ?_; rintro e w5 ⟨A5, c5, rfl, hS5, hb5⟩
               have hk5 : ∀ j, w5.cell? ⟨w.heap.size + 1, j, none⟩ = w4.cell? ⟨w.heap.size + 1, j, none⟩ := fun j => hb5.cell (p := ⟨w.heap.size + 1, j, none⟩) (by show w.heap.size + 1 < w4.heap.size; rw [HZ4.out]; omega)
               have hf5 : ∀ j, w5.frozen? ⟨w.heap.size + 1, j, none⟩ = w4.frozen? ⟨w.heap.size + 1, j, none⟩ := fun j => hb5.frozen (p := ⟨w.heap.size + 1, j, none⟩) (by show w.heap.size + 1 < w4.heap.size; rw [HZ4.out]; omega)
               have hfz : ∀ j, w4.frozen? ⟨w.heap.size + 1, j, none⟩ = false := fun j => frozen_of_row _ _ _ _ _ HSS3.out
               have HB5 := hid hb5; have HS5 := hid hS5
               clear hb5 hS5))
          clear hc0 hc1' hc2' hc3 hc4 hc5 hc6 hc7 hk5 hf5 hfz hag hsi
          have hST6 : (lay8L w5 (w.heap.size + 1) ⟨ta, tb, tc, td, te, tf, tg, th⟩).heap[w.heap.size + 1]? = some (.cells (stL ⟨ta, tb, tc, td, te, tf, tg, th⟩) A8L (0, 0)) :=
            lay8L_row _ ((HB5.out.block (w.heap.size + 1) (by show w.heap.size + 1 < w4.heap.size; rw [HZ4.out]; omega)).trans HSS3.out)
          have hRS6 : (lay8L w5 (w.heap.size + 1) ⟨ta, tb, tc, td, te, tf, tg, th⟩).heap[w.heap.size]? = some (.cells z64 A64B (0, 0)) :=
            (lay8L_other _ (by omega)).trans ((HB5.out.block w.heap.size (by show w.heap.size < w4.heap.size; rw [HZ4.out]; omega)).trans HRS3.out)
          have hB6 : Below w.heap.size w (lay8L w5 (w.heap.size + 1) ⟨ta, tb, tc, td, te, tf, tg, th⟩) := lay8L_below _ (HB3.out.drew.trans (HB5.out.mono HB3.out.size)) (by omega)
          have hG6 : (lay8L w5 (w.heap.size + 1) ⟨ta, tb, tc, td, te, tf, tg, th⟩).heap[g2]? = w2.heap[g2]? :=
            (lay8L_other _ (by omega)).trans ((HB5.out.block g2 (by show g2 < w4.heap.size; rw [HZ4.out]; omega)).trans HG23.out)
          have hO6 : (lay8L w5 (w.heap.size + 1) ⟨ta, tb, tc, td, te, tf, tg, th⟩).ownsRow (w.heap.size + 2) 5 1 (.slice (some ⟨g2, 0, none⟩) 0 c2) 0 [] := by
            have h0 := own_cut0 (xs := m) (by unfold OwnB; rw [HML.out]; exact HOW2.out) (by rw [HML.out]; omega)
            refine own_moved (w := w2) h0 (fun q hq => ?_)
            simp only [Value.ownBlock, Option.some.injEq] at hq
            rw [← hq]; exact hG6
          have hz6 : w.heap.size + 2 ≤ (lay8L w5 (w.heap.size + 1) ⟨ta, tb, tc, td, te, tf, tg, th⟩).heap.size := by
            have h1 := HB5.out.size
            have h2 : w4.drew.heap.size = w3.heap.size := HZ4.out
            have h3 := (lay8L_below (B := 0) (g := w.heap.size + 1) ⟨ta, tb, tc, td, te, tf, tg, th⟩ (Below.refl 0 w5) (by omega)).size
            omega
          have hT6 : Lie (lay8L w5 (w.heap.size + 1) ⟨ta, tb, tc, td, te, tf, tg, th⟩) w.heap.size A5 (bvs tl) := (HS5.out.below (lay8L_below _ (Below.refl _ _) (by omega))).lie
          have HST6 := hid hST6; have HRS6 := hid hRS6; have HB6 := hid hB6; have HO6 := hid hO6; have HT6 := hid hT6; have HZ6 := hid hz6
          have htl2 : (tl.length : Int) < 128 := by omega
          clear hST6 hRS6 hB6 hG6 hO6 hT6 hz6
          go_wp2_with (at_builtin; refine wpList_append_lie rfl (.tmp 48) (.tmp 49) 22 rfl (w.heap.size + 2) 5 (.int .u8 0) 1 Tryz.underlying22 infoU8 rfl rfl HO6.out (bvs_length tl) rfl HT6.out (bvs_one tl) ?f1 ?f2 ?f3 ?_)
          case f1 => unfold maxLen; omega
          case f2 => omega
          case f3 => exact HZ6.out
          intro v7 w7 hown7 hg7 hat7
          have hg7' : (lay8L w5 (w.heap.size + 1) ⟨ta, tb, tc, td, te, tf, tg, th⟩).grownBy w7 (some g2) := hg7
          have hD7 : DigL w z64 (all ++ p) (.int .u64 ((all.length : Int) + (p.length : Int))) v7 w7 := by
            refine ⟨by simp, ?_, ?_, ?_, HB6.out.grown hg7' HB6.out.size (fun q hq => by simp only [Option.some.injEq] at hq; omega), Nat.le_trans HZ6.out hg7'.size⟩
            · rw [← HTL.out]; unfold OwnB; simpa using hown7
            · rw [← HMXE.out]; exact (hg7'.block _ (by have := HZ6.out; omega) (by simp; omega)).trans HST6.out
            · exact (hg7'.block _ (by have := HZ6.out; omega) (by simp; omega)).trans HRS6.out
          have HD7 := hid hD7
          clear hown7 hg7 hat7 hg7' hD7
          go_wp2
          have hk := HK.out
          go_roundg (ls.length - k - 1)
          case measure => omega
          case rel => exact ⟨k + 1, by omega, by go_num, by rw [HFT.out]; exact HD7.out⟩
        · have hcc2 : ¬ c1 = 128 - u := fun e => hcc e.symm
          have HC : Hid (Calls Tryz.prog 122 #[.agg #[.int .u64 (sa : Int), .int .u64 (sb : Int), .int .u64 (sc : Int), .int .u64 (sd : Int), .int .u64 (se : Int), .int .u64 (sf : Int), .int .u64 (sg : Int), .int .u64 (sh : Int)], .slice (some ⟨bp, op + (128 - u), none⟩) (p.length - (128 - u)) (c1 - (128 - u))] w4.drew fun e w5 => ∃ A5 c5, e = .returned (.tuple #[.agg #[.int .u64 (ta : Int), .int .u64 (tb : Int), .int .u64 (tc : Int), .int .u64 (td : Int), .int .u64 (te : Int), .int .u64 (tf : Int), .int .u64 (tg : Int), .int .u64 (th : Int)], .slice A5 tl.length c5]) ∧ Sq w5 w.heap.size A5 c5 (bvs tl) ∧ Below w4.heap.size w4.drew w5) := hid (by
            have h := throughL_any ⟨sa, sb, sc, sd, se, sf, sg, sh⟩ (some ⟨bp, op + (128 - u), none⟩) ys (c1 - (128 - u)) w4.drew HSO.out (show Sq w4 w4.heap.size _ _ _ by
              have h0 := HS4.out.drop (128 - u) (by omega)
              have e : (bvs p).drop (128 - u) = bvs ys := by rw [HYS.out]; simp [bvs, List.map_drop]
              rw [e] at h0
              exact h0.more (by rw [HZ4.out]; omega)) HG4.out
            rw [HFIN.out, HTAIL.out, HYB.out, HYL.out] at h
            refine h.mono ?_
            rintro e w5 ⟨A5, c5, rfl, h1, h2, h3⟩
            refine ⟨A5, c5, rfl, sq_blk h1 (fun q r sp hq => ?_), h2⟩
            obtain ⟨o0, sp0, h0⟩ := h3 q r sp hq
            simp only [Option.some.injEq, Addr.mk.injEq] at h0
            rw [← h0.1]; exact hbp)
          go_region_law (first
            | (go_simp; go_at_call 122; refine HC.out.mono ?_; rintro e w5 ⟨A5, c5, rfl, hS5, hb5⟩
               have hk5 : ∀ j, w5.cell? ⟨w.heap.size + 1, j, none⟩ = w4.cell? ⟨w.heap.size + 1, j, none⟩ := fun j => hb5.cell (p := ⟨w.heap.size + 1, j, none⟩) (by show w.heap.size + 1 < w4.heap.size; rw [HZ4.out]; omega)
               have hf5 : ∀ j, w5.frozen? ⟨w.heap.size + 1, j, none⟩ = w4.frozen? ⟨w.heap.size + 1, j, none⟩ := fun j => hb5.frozen (p := ⟨w.heap.size + 1, j, none⟩) (by show w.heap.size + 1 < w4.heap.size; rw [HZ4.out]; omega)
               have hfz : ∀ j, w4.frozen? ⟨w.heap.size + 1, j, none⟩ = false := fun j => frozen_of_row _ _ _ _ _ HSS3.out
               have HB5 := hid hb5; have HS5 := hid hS5
               clear hb5 hS5))
          clear hc0 hc1' hc2' hc3 hc4 hc5 hc6 hc7 hk5 hf5 hfz hag hsi
          have hST6 : (lay8L w5 (w.heap.size + 1) ⟨ta, tb, tc, td, te, tf, tg, th⟩).heap[w.heap.size + 1]? = some (.cells (stL ⟨ta, tb, tc, td, te, tf, tg, th⟩) A8L (0, 0)) :=
            lay8L_row _ ((HB5.out.block (w.heap.size + 1) (by show w.heap.size + 1 < w4.heap.size; rw [HZ4.out]; omega)).trans HSS3.out)
          have hRS6 : (lay8L w5 (w.heap.size + 1) ⟨ta, tb, tc, td, te, tf, tg, th⟩).heap[w.heap.size]? = some (.cells z64 A64B (0, 0)) :=
            (lay8L_other _ (by omega)).trans ((HB5.out.block w.heap.size (by show w.heap.size < w4.heap.size; rw [HZ4.out]; omega)).trans HRS3.out)
          have hB6 : Below w.heap.size w (lay8L w5 (w.heap.size + 1) ⟨ta, tb, tc, td, te, tf, tg, th⟩) := lay8L_below _ (HB3.out.drew.trans (HB5.out.mono HB3.out.size)) (by omega)
          have hG6 : (lay8L w5 (w.heap.size + 1) ⟨ta, tb, tc, td, te, tf, tg, th⟩).heap[g2]? = w2.heap[g2]? :=
            (lay8L_other _ (by omega)).trans ((HB5.out.block g2 (by show g2 < w4.heap.size; rw [HZ4.out]; omega)).trans HG23.out)
          have hO6 : (lay8L w5 (w.heap.size + 1) ⟨ta, tb, tc, td, te, tf, tg, th⟩).ownsRow (w.heap.size + 2) 5 1 (.slice (some ⟨g2, 0, none⟩) 0 c2) 0 [] := by
            have h0 := own_cut0 (xs := m) (by unfold OwnB; rw [HML.out]; exact HOW2.out) (by rw [HML.out]; omega)
            refine own_moved (w := w2) h0 (fun q hq => ?_)
            simp only [Value.ownBlock, Option.some.injEq] at hq
            rw [← hq]; exact hG6
          have hz6 : w.heap.size + 2 ≤ (lay8L w5 (w.heap.size + 1) ⟨ta, tb, tc, td, te, tf, tg, th⟩).heap.size := by
            have h1 := HB5.out.size
            have h2 : w4.drew.heap.size = w3.heap.size := HZ4.out
            have h3 := (lay8L_below (B := 0) (g := w.heap.size + 1) ⟨ta, tb, tc, td, te, tf, tg, th⟩ (Below.refl 0 w5) (by omega)).size
            omega
          have hT6 : Lie (lay8L w5 (w.heap.size + 1) ⟨ta, tb, tc, td, te, tf, tg, th⟩) w.heap.size A5 (bvs tl) := (HS5.out.below (lay8L_below _ (Below.refl _ _) (by omega))).lie
          have HST6 := hid hST6; have HRS6 := hid hRS6; have HB6 := hid hB6; have HO6 := hid hO6; have HT6 := hid hT6; have HZ6 := hid hz6
          have htl2 : (tl.length : Int) < 128 := by omega
          clear hST6 hRS6 hB6 hG6 hO6 hT6 hz6
          go_wp2_with (at_builtin; refine wpList_append_lie rfl (.tmp 48) (.tmp 49) 22 rfl (w.heap.size + 2) 5 (.int .u8 0) 1 Tryz.underlying22 infoU8 rfl rfl HO6.out (bvs_length tl) rfl HT6.out (bvs_one tl) ?f4 ?f5 ?f6 ?_)
          case f4 => unfold maxLen; omega
          case f5 => omega
          case f6 => exact HZ6.out
          intro v7 w7 hown7 hg7 hat7
          have hg7' : (lay8L w5 (w.heap.size + 1) ⟨ta, tb, tc, td, te, tf, tg, th⟩).grownBy w7 (some g2) := hg7
          have hD7 : DigL w z64 (all ++ p) (.int .u64 ((all.length : Int) + (p.length : Int))) v7 w7 := by
            refine ⟨by simp, ?_, ?_, ?_, HB6.out.grown hg7' HB6.out.size (fun q hq => by simp only [Option.some.injEq] at hq; omega), Nat.le_trans HZ6.out hg7'.size⟩
            · rw [← HTL.out]; unfold OwnB; simpa using hown7
            · rw [← HMXE.out]; exact (hg7'.block _ (by have := HZ6.out; omega) (by simp; omega)).trans HST6.out
            · exact (hg7'.block _ (by have := HZ6.out; omega) (by simp; omega)).trans HRS6.out
          have HD7 := hid hD7
          clear hown7 hg7 hat7 hg7' hD7
          go_wp2
          have hk := HK.out
          go_roundg (ls.length - k - 1)
          case measure => omega
          case rel => exact ⟨k + 1, by omega, by go_num, by rw [HFT.out]; exact HD7.out⟩
    · obtain rfl : k = ls.length := by have := HK.out; omega
      have hae : all = ls.flatten := by rw [HAL.out, List.take_length]
      obtain ⟨Ao, co, rfl, hSo⟩ := own_sl hown
      have hr128 : (tailOfL all).length < 128 := by rw [hul]; omega
      have HCL := hid (closedL_any (stOfL all) Ao (tailOfL all) co all.length wo (stOfL_ok all) hr128 hul hal hSo.lie (HG.out.below HB.out (Nat.le_refl _)))
      have HI : Hid ((Tryz.prog.info? 141).map (·.size) = some (stL (stOfL all)).size) := hid (info8L.trans (congrArg some (stL_size _).symm))
      obtain ⟨bs, hbs⟩ : ∃ bs, bs = byA (longB ls.flatten) := ⟨_, rfl⟩
      have hbz : bs.size = 64 := by rw [hbs]; simp [byA, longB_length]
      have HI3 : Hid ((Tryz.prog.info? 97).map (·.size) = some bs.size) := hid (info64B.trans (congrArg some hbz.symm))
      have HZ3 : Hid (z64.size = bs.size) := hid (HZS.out.trans hbz.symm)
      have HO3 : Hid (bs.all (·.oneCell') = true) := hid (by rw [hbs]; exact byA_one _)
      have hcb : byA (closeSL (stOfL all) (tailOfL all) all.length).bytesL = bs := by rw [hbs, ← hae]; rfl
      rw [hcb] at HCL
      have HBS := hid hbs
      clear hae hSo hown hul hbs hbz hcb
      go_wp2_with (first
        | fail
        | (with_reducible refine wpList_load_row rfl 141 (.tmp 3) rfl (w.heap.size + 1) rfl A8L (stL (stOfL all)) (0, 0) _ HST.out Tryz.underlying141 rfl HI.out ?_))
      refine HCL.out.mono ?_
      rintro e w8 ⟨rfl, hb8⟩
      have hR8 : w8.heap[w.heap.size]? = some (.cells z64 A64B (0, 0)) := (hb8.block _ (by omega)).trans HRES.out
      have hB8 : Below w.heap.size w w8 := HB.out.trans (hb8.mono (by omega))
      have HR8 := hid hR8; have HB8 := hid hB8
      clear hb8 hR8 hB8
      go_wp2_with (with_reducible refine wpList_store_row rfl 97 (.tmp 2) _ rfl w.heap.size bs rfl rfl A64B z64 HR8.out HI3.out HZ3.out HO3.out ?_)
      refine bodyPost_ret (v := .agg bs) (results_cell_row rfl _ _ w.heap.size A64B bs (0, 0) _ rfl (setRow_heap _ _ _ _ _ _ HR8.out) Tryz.underlying97 rfl HI3.out) rfl ⟨by rw [HBS.out], ?_⟩
      exact below_setRow HB8.out (Nat.le_refl _) _
end Go.Proofs.YtgehfbcagaaggaaGreatDoor
end
section
namespace Go.Proofs.YtgehfbcagaaggaaGreatDoor
open Go.RowKit
set_option linter.unusedVariables false
set_option linter.unusedSimpArgs false
/-- A new block holds the digest's bytes, and v is the slice of it. -/
def DigestL (w w' : World) (v : Value) (xs : List UInt8) : Prop := ∃ b, v = .slice (some ⟨b, 0, none⟩) 64 64 ∧ w'.heap[b]? = some (.cells (byA xs) A64B (0, 0)) ∧ w.heap.size ≤ b ∧ xs.length = 64
theorem rows_one {w' : World} {B g : Nat} {A : Option Addr} {c : Nat} {x : List UInt8} {t : TypeId} (hg : w'.heap[g]? = some (.cells #[.slice A x.length c] t (0, 0))) (hS : Sq w' B A c (bvs x)) (hB : g < B) : Rows2' w' B (some ⟨g, 0, none⟩) [x] :=
  ⟨[.slice A x.length c], rfl, fun _ => ⟨g, 0, rfl, hB, fun j u hu => by rw [Nat.zero_add]; exact cell_of hg j u (by simpa using hu)⟩, fun j y hy => by
    have hj : j = 0 := by
      have := (List.getElem?_eq_some_iff.1 hy).1
      simpa using this
    subst hj
    simp at hy
    subst hy
    exact ⟨A, c, rfl, hS⟩⟩
set_option maxRecDepth 100000 in
set_option maxHeartbeats 800000 in
theorem SumL_any (A : Option Addr) (xs : List UInt8) (c : Nat) (w : World) (hn : xs.length ≤ 1152921504606846976) (hA : Sq w w.heap.size A c (bvs xs)) (hG : GlobL w) :
    Calls Tryz.prog 67 #[.slice A xs.length c] w fun e w' => e = .returned (.agg (byA (longB xs))) ∧ Below w.heap.size w w' := by
  obtain ⟨z64, hz64⟩ : ∃ z : Array Value, z = (List.replicate 64 (Value.int .u8 0)).toArray := ⟨_, rfl⟩
  have hz64s : z64.size = 64 := by rw [hz64]; simp
  have hzero : ∀ W : World, (zeroValue 97).run Tryz.prog W = .ok (.agg z64) W := fun W => by
    rw [hz64]
    exact (zero_of_info (P := Tryz.prog) (t := 97) (v := .agg (List.replicate 64 (Value.int .u8 0)).toArray) (n := 64) (by kernel_rfl)).1 W
  have hbw : Below w.heap.size w ((w.alloc (.cells z64 A64B)).alloc (.cells #[.slice A xs.length c] 22)) := ((Below.refl _ _).alloc (Nat.le_refl _) _).alloc (by simp) _
  have hrow := heap_alloc2_new w (.cells z64 A64B) (.cells #[.slice A xs.length c] 22)
  have hrow0 := heap_alloc2_old w (.cells z64 A64B) (.cells #[.slice A xs.length c] 22)
  have HC := hid (digest_any (some ⟨w.heap.size + 1, 0, none⟩) [xs] 1 ((w.alloc (.cells z64 A64B)).alloc (.cells #[.slice A xs.length c] 22))
    (rows_one hrow ((hA.below hbw).more (by simp; omega)) (by simp)) (hG.below hbw (Nat.le_refl _)) (by simp) (by simpa using hn))
  obtain ⟨bs, hbs⟩ : ∃ bs, bs = byA (longB xs) := ⟨_, rfl⟩
  simp only [List.flatten_cons, List.flatten_nil, List.append_nil, List.length_cons, List.length_nil, Nat.zero_add] at HC
  rw [← hbs] at HC ⊢
  have hbz : bs.size = 64 := by rw [hbs]; simp [byA, longB_length]
  have HI3 : Hid ((Tryz.prog.info? 97).map (·.size) = some bs.size) := hid (info64B.trans (congrArg some hbz.symm))
  have HZ3 : Hid (z64.size = bs.size) := hid (hz64s.trans hbz.symm)
  have HO3 : Hid (bs.all (·.oneCell') = true) := hid (by rw [hbs]; exact byA_one _)
  have HR0 := hid hrow0; have HBW := hid hbw
  have hsz2 : ((w.alloc (.cells z64 A64B)).alloc (.cells #[.slice A xs.length c] 22)).heap.size = w.heap.size + 1 + 1 := by simp
  have HSZ := hid hsz2
  clear hA hG hn hz64 hz64s hbw hrow hrow0 hbs hbz hsz2
  go_enter Tryz.func67, Tryz.ntmps67
  go_wp2_with fail
  refine HC.out.mono ?_
  rintro e w1 ⟨rfl, hb1⟩
  rw [HSZ.out] at hb1
  have hR1 : w1.heap[w.heap.size]? = some (.cells z64 A64B (0, 0)) := (hb1.block _ (by omega)).trans HR0.out
  have hB1 : Below w.heap.size w w1 := HBW.out.trans (hb1.mono (by omega))
  have HR1 := hid hR1; have HB1 := hid hB1
  clear hb1 hR1 hB1 hzero
  go_wp2_with (with_reducible refine wpList_store_row rfl 97 (.tmp 2) _ rfl w.heap.size bs rfl rfl A64B z64 HR1.out HI3.out HZ3.out HO3.out ?_)
  refine bodyPost_ret (v := .agg bs) (results_cell_row rfl _ _ w.heap.size A64B bs (0, 0) _ rfl (setRow_heap _ _ _ _ _ _ HR1.out) Tryz.underlying97 rfl HI3.out) rfl ⟨rfl, ?_⟩
  exact below_setRow HB1.out (Nat.le_refl _) _
set_option maxRecDepth 100000 in
set_option maxHeartbeats 800000 in
theorem OfL_any (A : Option Addr) (ls : List (List UInt8)) (c : Nat) (w : World) (hA : Rows2' w w.heap.size A ls) (hG : GlobL w) (hl : ls.length ≤ 9223372036854775807) (hn : ls.flatten.length ≤ 1152921504606846976) :
    Calls Tryz.prog 69 #[.slice A ls.length c] w fun e w' => ∃ v, e = .returned v ∧ DigestL w w' v (longB ls.flatten) ∧ Below w.heap.size w w' := by
  obtain ⟨z64, hz64⟩ : ∃ z : Array Value, z = (List.replicate 64 (Value.int .u8 0)).toArray := ⟨_, rfl⟩
  have hz64s : z64.size = 64 := by rw [hz64]; simp
  have hzero : ∀ W : World, (zeroValue 97).run Tryz.prog W = .ok (.agg z64) W := fun W => by
    rw [hz64]
    exact (zero_of_info (P := Tryz.prog) (t := 97) (v := .agg (List.replicate 64 (Value.int .u8 0)).toArray) (n := 64) (by kernel_rfl)).1 W
  have HC := hid (digest_any A ls c w hA hG hl hn)
  obtain ⟨bs, hbs⟩ : ∃ bs, bs = byA (longB ls.flatten) := ⟨_, rfl⟩
  rw [← hbs] at HC
  have hbz : bs.size = 64 := by rw [hbs]; simp [byA, longB_length]
  have HI3 : Hid ((Tryz.prog.info? 97).map (·.size) = some bs.size) := hid (info64B.trans (congrArg some hbz.symm))
  have HZ3 : Hid (z64.size = bs.size) := hid (hz64s.trans hbz.symm)
  have HO3 : Hid (bs.all (·.oneCell') = true) := hid (by rw [hbs]; exact byA_one _)
  have HBS := hid hbs
  clear hA hG hn hl hz64 hz64s hbs hbz
  go_enter Tryz.func69, Tryz.ntmps69
  go_wp2_with fail
  refine HC.out.mono ?_
  rintro e w1 ⟨rfl, hb1⟩
  have HB1 := hid hb1
  have hsz := hb1.size
  clear hb1
  go_wp2_with (with_reducible refine wpList_store_row rfl 97 (.tmp 3) _ rfl w1.heap.size bs rfl rfl A64B z64 (heap_alloc_new _ _) HI3.out HZ3.out HO3.out ?_; rw [World.setRow_alloc_new])
  go_ret
  exact ⟨_, rfl, ⟨w1.heap.size, rfl, by rw [heap_alloc_new, HBS.out], hsz, longB_length _⟩, HB1.out.alloc hsz _⟩
end Go.Proofs.YtgehfbcagaaggaaGreatDoor
end
