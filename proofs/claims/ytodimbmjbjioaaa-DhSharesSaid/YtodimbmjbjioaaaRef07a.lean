/-
  The document's product of a key and a point: the key clamped.
-/
import Derived.Test.YtodimbmjbjioaaaRef06e
namespace Go.Proofs.Ytodimbmjbjioaaa
open Go.RowKit
set_option linter.unusedVariables false
set_option linter.unusedSimpArgs false

/-- The first 32 bytes, 0 behind them. -/
def pad32 (xs : List UInt8) : List UInt8 := (xs ++ List.replicate 32 0).take 32
theorem pad32_length (xs : List UInt8) : (pad32 xs).length = 32 := by unfold pad32; rw [List.length_take, List.length_append, List.length_replicate]; omega
def clampB (xs : List UInt8) : List UInt8 := ((pad32 xs).set 0 (UInt8.ofNat (((pad32 xs).getD 0 0).toNat / 8 * 8))).set 31 (UInt8.ofNat (((pad32 xs).getD 31 0).toNat % 64 + 64))
theorem clampB_length (xs : List UInt8) : (clampB xs).length = 32 := by unfold clampB; rw [List.length_set, List.length_set, pad32_length]
theorem pad32_of (xs : List UInt8) (m : Nat) (h : 32 ≤ xs.length + m) : (xs ++ List.replicate m 0).take 32 = pad32 xs := by
  unfold pad32
  refine List.ext_getElem? fun j => ?_
  rw [List.getElem?_take, List.getElem?_take]
  split
  · rename_i hj
    rw [List.getElem?_append, List.getElem?_append]
    split
    · rfl
    · rw [List.getElem?_replicate, List.getElem?_replicate, if_pos (by omega), if_pos (by omega)]
  · rfl
set_option maxHeartbeats 1000000 in
theorem Clamp7_any (A : Option Addr) (xs : List UInt8) (c : Nat) (w : World) (hS : Sq w w.heap.size A c (bvs xs)) (hl : xs.length ≤ 1000) :
    Calls Try.prog 9 #[.slice A xs.length c] w fun e w' => ∃ A' c', e = .returned (.slice A' 32 c') ∧ Sq w' w'.heap.size A' c' (bvs (clampB xs)) ∧ Below w.heap.size w w' := by
  have HS := hid hS
  clear hS
  go_enter Try.func9, Try.ntmps9
  go_wp2_with (at_builtin; refine wpList_append_lie rfl _ _ 22 rfl w.heap.size 5 (.int .u8 0) 1 Try.underlying22 infoU8 rfl rfl (erow6 _ _ (k := w.heap.size) rfl (Nat.le_refl _)) (bvs_length xs) rfl (HS.out.lie.alloc (Nat.le_refl _) _) (bvs_one xs) ?d1 ?d2 ?d3 ?_)
  case d1 => unfold maxLen; omega
  case d2 => omega
  case d3 => simp
  intro v1 w1 hown1 hg1 hat1
  obtain ⟨A1, c1, rfl, hS1⟩ := own_sl hown1
  have hb1 : Below w.heap.size w w1 := ((Below.refl _ _).alloc (Nat.le_refl _) _).grown hg1 (by simp) (by intro q hq; simp [Value.ownBlock] at hq; omega)
  have HB1 := hid hb1; have HO1 := hid hown1
  clear hown1 hg1 hat1 hS1 hb1
  go_wp2
  go_loopg [3] (32 - xs.length) (fun g v wr => ∃ m : Nat, g = 32 - (xs.length + m) ∧ (m = 0 ∨ xs.length + m ≤ 32) ∧ OwnB wr w.heap.size v (xs ++ List.replicate m 0) ∧ Below w.heap.size w wr)
  case atStart => exact ⟨0, rfl, .inl rfl, by simpa [OwnB] using HO1.out, HB1.out⟩
  case round =>
    clear HO1 HB1
    obtain ⟨m, hg, hm, ho, hb⟩ := hrel
    obtain ⟨A2, c2, rfl, _⟩ := own_sl ho
    obtain ⟨n, hn⟩ : ∃ n, n = (xs ++ List.replicate m 0).length := ⟨_, rfl⟩
    have hn' : n = xs.length + m := by rw [hn, List.length_append, List.length_replicate]
    have ho' : wr.ownsRow w.heap.size 5 1 (.slice A2 n c2) n (bvs (xs ++ List.replicate m 0)) := by unfold OwnB at ho; rwa [← hn] at ho
    rw [← hn]
    have HO := hid ho'; have HB := hid hb; have HG := hid hg; have HM := hid hm; have HN := hid hn'; have HNL := hid hn
    have hnl : n ≤ 1000 := by omega
    clear ho ho' hb hg hm hn
    by_cases hlt : n < 32
    · have hx : (n : Int) < 32 := by omega
      have HOa := hid (World.ownsRow.alloc HO.out (.cells #[.int .u8 0] 5))
      clear hn'
      go_wp2_with (at_builtin; refine wpList_append_lie rfl _ _ 22 rfl w.heap.size 5 (.int .u8 0) 1 Try.underlying22 infoU8 rfl rfl HOa.out rfl rfl (Lie.new1 _ _ _) (by intro u hu; simp at hu; subst hu; rfl) ?e1 ?e2 ?e3 ?_)
      case e1 => rw [List.length_singleton]; unfold maxLen; omega
      case e2 => rw [List.length_singleton]; omega
      case e3 => (have := HB.out.size; simp; omega)
      intro v2 w2 hown2 hg2 hat2
      have hb2 : Below w.heap.size w w2 := (HB.out.alloc HB.out.size _).grown hg2 (by have := HB.out.size; simp; omega) (fun q h => own_lt HO.out q h)
      have hrep : xs ++ List.replicate (m + 1) (0 : UInt8) = (xs ++ List.replicate m 0) ++ [0] := by rw [List.replicate_succ', List.append_assoc]
      have ho2 : OwnB w2 w.heap.size v2 (xs ++ List.replicate (m + 1) 0) := by
        rw [hrep]
        exact own_snoc hown2 (by rw [← HNL.out]) rfl
      have HO2 := hid ho2; have HB2 := hid hb2
      clear hown2 hg2 hat2 hb2 ho2 hrep HO HOa HB
      go_wp2
      have hn' := HN.out
      go_roundg (32 - (xs.length + (m + 1)))
      case measure => have := HG.out; omega
      case rel => exact ⟨m + 1, rfl, .inr (by omega), HO2.out, HB2.out⟩
    · have hx : ¬ (n : Int) < 32 := by omega
      obtain ⟨zs, hzs⟩ : ∃ zs, zs = xs ++ List.replicate m 0 := ⟨_, rfl⟩
      have hpad : zs.take 32 = pad32 xs := by rw [hzs]; exact pad32_of xs m (by omega)
      have hzl : zs.length = n := by rw [hzs]; exact HNL.out.symm
      rw [← hzs] at HO
      obtain ⟨g, cur, rfl, hBg, hcur, hcells, hnc, hcm⟩ := own_parts HO.out (by omega)
      obtain ⟨ps, hps⟩ : ∃ ps, ps = pad32 xs := ⟨_, rfl⟩
      have hpl : ps.length = 32 := by rw [hps]; exact pad32_length xs
      have hcp : ∀ (j : Nat) (v : Value), (bvs ps)[j]? = some v → cur[j]? = some v := fun j v hj => by
        refine hcells j v ?_
        rw [hps, ← hpad, bvs, List.map_take, List.getElem?_take] at hj
        split at hj
        · exact hj
        · cases hj
      obtain ⟨y0, hy0⟩ : ∃ y, y = ps[0] := ⟨_, rfl⟩
      obtain ⟨y31, hy31⟩ : ∃ y, y = ps[31] := ⟨_, rfl⟩
      obtain ⟨z0, hz0⟩ : ∃ z, z = UInt8.ofNat (y0.toNat / 8 * 8) := ⟨_, rfl⟩
      obtain ⟨z31, hz31⟩ : ∃ z, z = UInt8.ofNat (y31.toNat % 64 + 64) := ⟨_, rfl⟩
      have hl0 := y0.toNat_lt
      have hl31 := y31.toNat_lt
      have hv0 : z0.toNat = y0.toNat / 8 * 8 := by rw [hz0]; simp [UInt8.toNat_ofNat']; omega
      have hv31 : z31.toNat = y31.toNat % 64 + 64 := by rw [hz31]; simp [UInt8.toNat_ofNat']; omega
      have hcl : clampB xs = (ps.set 0 z0).set 31 z31 := by
        unfold clampB
        rw [← hps, hz0, hz31, hy0, hy31, List.getD_eq_getElem?_getD, List.getD_eq_getElem?_getD, List.getElem?_eq_getElem (by omega : 0 < ps.length), List.getElem?_eq_getElem (by omega : 31 < ps.length)]
        simp only [Option.getD_some]
      have hc0 : wr.cell? ⟨g, 0, none⟩ = some (.int .u8 (y0.toNat : Int)) := cell_of hcur 0 _ (hcp 0 _ (by rw [hy0]; exact bvs_at ps 0 (by omega)))
      have hf0 : wr.frozen? ⟨g, 0, none⟩ = false := frozen_of_row _ _ _ _ _ hcur
      have hset0 := block_set hcur 0 (.int .u8 (z0.toNat : Int))
      have hcs := set_cells hcp 0 (by omega) z0
      have hcs2 := set_cells hcs 31 (by rw [List.length_set]; omega) z31
      have h31 : (ps.set 0 z0)[31]'(by rw [List.length_set]; omega) = y31 := by rw [hy31]; exact List.getElem_set_ne (by omega) _
      have hc31 : (wr.setCell ⟨g, 0, none⟩ (.int .u8 (z0.toNat : Int))).cell? ⟨g, 31, none⟩ = some (.int .u8 (y31.toNat : Int)) := cell_of hset0 31 _ (hcs 31 _ (by rw [bvs_at _ 31 (by rw [List.length_set]; omega), h31]))
      have hf31 : (wr.setCell ⟨g, 0, none⟩ (.int .u8 (z0.toNat : Int))).frozen? ⟨g, 31, none⟩ = false := frozen_of_row _ _ _ _ _ hset0
      have hset1 := block_set hset0 31 (.int .u8 (z31.toNat : Int))
      have hsq : Sq ((wr.setCell ⟨g, 0, none⟩ (.int .u8 (z0.toNat : Int))).setCell ⟨g, 31, none⟩ (.int .u8 (z31.toNat : Int))) ((wr.setCell ⟨g, 0, none⟩ (.int .u8 (z0.toNat : Int))).setCell ⟨g, 31, none⟩ (.int .u8 (z31.toNat : Int))).heap.size (some ⟨g, 0, none⟩) c2 (bvs (clampB xs)) := by
        refine row_sq hset1 (fun j v hj => hcs2 j v (by rw [← hcl]; exact hj)) (by rw [clampB_length]; omega) hcm
      have hb2 : Below w.heap.size w ((wr.setCell ⟨g, 0, none⟩ (.int .u8 (z0.toNat : Int))).setCell ⟨g, 31, none⟩ (.int .u8 (z31.toNat : Int))) := (HB.out.setCell (by simpa using hBg) _).setCell (by simpa using hBg) _
      have hq1 : ((y0.toNat : Int)).tdiv 8 = ((y0.toNat / 8 : Nat) : Int) := by rw [Int.tdiv_eq_ediv_of_nonneg (by omega)]; omega
      have hq2 : (y0.toNat : Int) / 8 = ((y0.toNat / 8 : Nat) : Int) := by omega
      have hq3 : IntKind.u8.wrap ((y0.toNat / 8 : Nat) : Int) = ((y0.toNat / 8 : Nat) : Int) := by rw [IntKind.wrap_u8]; omega
      have hq4 : IntKind.u8.wrap (((y0.toNat / 8 : Nat) : Int) * 8) = (z0.toNat : Int) := by rw [IntKind.wrap_u8, hv0]; omega
      have hr1 : ((y31.toNat : Int)).tmod 64 = ((y31.toNat % 64 : Nat) : Int) := by rw [Int.tmod_eq_emod_of_nonneg (by omega)]; omega
      have hr2 : (y31.toNat : Int) % 64 = ((y31.toNat % 64 : Nat) : Int) := by omega
      have hr3 : IntKind.u8.wrap ((y31.toNat % 64 : Nat) : Int) = ((y31.toNat % 64 : Nat) : Int) := by rw [IntKind.wrap_u8]; omega
      have hr4 : IntKind.u8.wrap (((y31.toNat % 64 : Nat) : Int) + 64) = (z31.toNat : Int) := by rw [IntKind.wrap_u8, hv31]; omega
      obtain ⟨q, hq⟩ : ∃ q, q = y0.toNat / 8 := ⟨_, rfl⟩
      obtain ⟨r, hr⟩ : ∃ r, r = y31.toNat % 64 := ⟨_, rfl⟩
      rw [← hq] at hq1 hq2 hq3 hq4
      rw [← hr] at hr1 hr2 hr3 hr4
      have hnc1 : (32 : Int) ≤ (c2 : Int) := by omega
      have HSQ := hid hsq; have HB2 := hid hb2
      clear hsq hb2 hv0 hv31 hl0 hl31 hz0 hz31 hy0 hy31 hset0 hset1 hcs hcs2 h31 hcp hcells hcur hq hr hcl hn' hlt HN HM HG HNL hpad hzl
      go_wp2_with fail
      go_ret
      exact ⟨_, _, rfl, HSQ.out, HB2.out⟩
end Go.Proofs.Ytodimbmjbjioaaa
