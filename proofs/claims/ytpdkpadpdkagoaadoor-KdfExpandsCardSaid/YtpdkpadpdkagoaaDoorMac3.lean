/-
  Package mac: the tag.
-/
import Derived.Test.YtpdkpadpdkagoaaDoorMac2
namespace Go.Proofs.YtpdkpadpdkagoaaDoor
open Go.RowKit
set_option linter.unusedVariables false
set_option linter.unusedSimpArgs false

set_option maxRecDepth 100000 in
set_option maxHeartbeats 800000 in
theorem Tag_any (A : Option Addr) (key : List UInt8) (c : Nat) (A2 : Option Addr) (ls : List (List UInt8)) (c2 : Nat) (w : World) (hA : Sq w w.heap.size A c (bvs key)) (hA2 : Rows2' w w.heap.size A2 ls) (hG : Glob w)
    (hn : key.length ≤ 1152921504606846976) (hn2 : ls.flatten.length ≤ 1152921504606840000) (hl : ls.length ≤ 9223372036854775807) :
    Calls Tryd.prog 17 #[.slice A key.length c, .slice A2 ls.length c2] w fun e w' => ∃ v, e = .returned v ∧ Digest w w' v (macB key ls.flatten) ∧ Below w.heap.size w w' := by
  obtain ⟨z64, hz64⟩ : ∃ z, z = byA (List.replicate 64 0) := ⟨_, rfl⟩
  have hzero : ∀ W : World, (zeroValue 46).run Tryd.prog W = .ok (.agg z64) W := fun W => by rw [hz64]; exact zero64 W
  have HP := hid (padded_any A key c w hA hG hn)
  obtain ⟨po, hpo⟩ : ∃ p, p = padX 92 (padK key) := ⟨_, rfl⟩
  obtain ⟨pi, hpi⟩ : ∃ p, p = padX 54 (padK key) := ⟨_, rfl⟩
  rw [← hpo, ← hpi] at HP
  have hol : po.length = 64 := by rw [hpo]; simp
  have hil : pi.length = 64 := by rw [hpi]; simp
  have HZ : Hid (z64.size = 64) := hid (by rw [hz64]; simp [byA])
  have HI1 : Hid ((Tryd.prog.info? 46).map (·.size) = some (byA po).size) := hid (info64.trans (by simp [byA, hol]))
  have HI2 : Hid ((Tryd.prog.info? 46).map (·.size) = some (byA pi).size) := hid (info64.trans (by simp [byA, hil]))
  have HZ1 : Hid (z64.size = (byA po).size) := hid (HZ.out.trans (by simp [byA, hol]))
  have HZ2 : Hid (z64.size = (byA pi).size) := hid (HZ.out.trans (by simp [byA, hil]))
  have HO1 := hid (byA_one po); have HO2 := hid (byA_one pi)
  have HA := hid hA; have HA2 := hid hA2; have HG := hid hG; have HPO := hid hpo; have HPI := hid hpi; have HOL := hid hol; have HIL := hid hil
  clear hA hA2 hG hz64 hpo hpi hol hil
  go_enter Tryd.func17, Tryd.ntmps17
  go_wp2_with fail
  refine HP.out.mono ?_
  rintro e w1 ⟨rfl, hb1⟩
  have h51 : ((w1.alloc (.cells z64 46)).alloc (.cells z64 46)).heap[w1.heap.size]? = some (.cells z64 46 (0, 0)) := heap_alloc2_old _ _ _
  have h61 : (((w1.alloc (.cells z64 46)).alloc (.cells z64 46)).setRow w1.heap.size (byA po)).heap[w1.heap.size + 1]? = some (.cells z64 46 (0, 0)) := (setRow_other _ _ _ _ (by omega)).trans (heap_alloc2_new _ _ _)
  have H51 := hid h51; have H61 := hid h61; have HB1 := hid hb1
  clear h51 h61 hb1 HP
  go_wp2_with (first
    | fail
    | (with_reducible refine wpList_store_row rfl 46 (.tmp 5) (.tmp 13) rfl w1.heap.size (byA po) rfl rfl 46 z64 H51.out HI1.out HZ1.out HO1.out ?_)
    | (with_reducible refine wpList_store_row rfl 46 (.tmp 6) (.tmp 14) rfl (w1.heap.size + 1) (byA pi) rfl rfl 46 z64 H61.out HI2.out HZ2.out HO2.out ?_))
  obtain ⟨w2, hw2⟩ : ∃ w2, w2 = (((w1.alloc (.cells z64 46)).alloc (.cells z64 46)).setRow w1.heap.size (byA po)).setRow (w1.heap.size + 1) (byA pi) := ⟨_, rfl⟩
  have h52 : w2.heap[w1.heap.size]? = some (.cells (byA po) 46 (0, 0)) := by
    rw [hw2]; exact (setRow_other _ _ _ _ (by omega)).trans (setRow_heap _ _ _ _ _ _ H51.out)
  have h62 : w2.heap[w1.heap.size + 1]? = some (.cells (byA pi) 46 (0, 0)) := by
    rw [hw2]; exact setRow_heap _ _ _ _ _ _ H61.out
  have hz2 : w2.heap.size = w1.heap.size + 1 + 1 := by rw [hw2]; simp
  have hb2 : Below w1.heap.size w1 w2 := by
    rw [hw2]; exact below_setRow (below_setRow (((Below.refl _ _).alloc (Nat.le_refl _) _).alloc (by simp) _) (Nat.le_refl _) _) (by omega) _
  rw [← hw2]
  have HB2 := hid (HB1.out.trans (hb2.mono HB1.out.size)); have H52 := hid h52; have H62 := hid h62
  have hwz : w.heap.size ≤ w1.heap.size := HB1.out.size
  clear hw2 h52 h62 hb2 H51 H61 HI1 HI2 HZ HZ1 HZ2 HO1 HO2 hzero
  refine (New_any w2).mono ?_
  rintro e w3 ⟨rfl, hH3, hz3, hb3⟩
  have h53 : w3.heap[w1.heap.size]? = some (.cells (byA po) 46 (0, 0)) := (hb3.block _ (by omega)).trans H52.out
  have h63 : w3.heap[w1.heap.size + 1]? = some (.cells (byA pi) 46 (0, 0)) := (hb3.block _ (by omega)).trans H62.out
  have hB3 : Below w.heap.size w w3 := HB2.out.trans (hb3.mono (by omega))
  rw [hz2] at hH3 hz3
  have HW := hid (Write_any (w1.heap.size + 1 + 1) [] pi (some ⟨w1.heap.size + 1, 0, none⟩) 64 w3 hH3 (HG.out.below hB3 (Nat.le_refl _)) (HG.out.notGlob (by omega)) (by rw [HIL.out]; simp)
    ((lie_block h63).sq (by rw [bvs_length, HIL.out]; omega) (by omega)) (fun _ b o sp e => by simp at e; omega))
  rw [List.nil_append, HIL.out] at HW
  have H53 := hid h53; have HB3 := hid hB3
  clear hH3 hz3 hb3 h53 h63 hB3 H52 H62 HB2
  rw [hz2]
  clear hz2
  go_wp2_with fail
  refine HW.out.mono ?_
  rintro e w4 ⟨rfl, hH4, hg4⟩
  have h54 : w4.heap[w1.heap.size]? = some (.cells (byA po) 46 (0, 0)) := (hg4.block _ (block_lt H53.out) (by simp; omega)).trans H53.out
  have hB4 : Below w.heap.size w w4 := HB3.out.grown hg4 HB3.out.size (fun q h => by injection h with h; omega)
  have HH4 := hid hH4; have H54 := hid h54; have HB4 := hid hB4
  clear hH4 hg4 h54 hB4 H53 HB3 HW
  generalize w1.heap.size = g at *
  go_wp2
  go_loopg [21] ls.length (fun r i wr => ∃ k : Nat, k + r = ls.length ∧ i = .int .i64 (k : Int) ∧ HashIs wr (g + 1 + 1) (pi ++ (ls.take k).flatten) ∧ wr.heap[g]? = some (.cells (byA po) 46 (0, 0)) ∧ Below w.heap.size w wr)
  case atStart => exact ⟨0, by omega, rfl, by simpa using HH4.out, H54.out, HB4.out⟩
  case round =>
    clear HH4 H54 HB4
    obtain ⟨k, hk, rfl, hH, h5, hb⟩ := hrel
    have HK := hid hk; have HH := hid hH; have H5 := hid h5; have HB := hid hb
    clear hk hH h5
    by_cases hlt : k < ls.length
    · obtain ⟨b, o, A1, c1, rfl, hb1, hc, hS⟩ := (HA2.out.below hb).at_ hlt
      have hx : (k : Int) < (ls.length : Int) := by omega
      have hk0 : (0 : Int) ≤ (k : Int) := by omega
      have hft := flatten_take ls k hlt
      have hfl := flatten_le ls (k + 1)
      rw [hft, List.length_append] at hfl
      have hlt2 := HH.out.lt
      have HC := hid (Write_any (g + 1 + 1) (pi ++ (ls.take k).flatten) ls[k] A1 c1 wr HH.out (HG.out.below hb (Nat.le_refl _)) (HG.out.notGlob (by omega)) (by rw [List.length_append, HIL.out]; omega) (hS.more (by omega)) (hS.notIn (by omega)))
      rw [List.append_assoc, ← hft] at HC
      clear hft hfl hb hS
      go_wp2_with fail
      refine HC.out.mono ?_
      rintro e w5 ⟨rfl, hH5, hg5⟩
      have h55 : w5.heap[g]? = some (.cells (byA po) 46 (0, 0)) := (hg5.block _ (by omega) (by simp; omega)).trans H5.out
      have hB5 : Below w.heap.size w w5 := HB.out.grown hg5 HB.out.size (fun q h => by injection h with h; omega)
      have HH5 := hid hH5; have H55 := hid h55; have HB5 := hid hB5
      clear hH5 hg5 h55 hB5
      go_wp2
      have hk := HK.out
      go_roundg (ls.length - k - 1)
      case measure => omega
      case rel => exact ⟨k + 1, by omega, by go_num, HH5.out, H55.out, HB5.out⟩
    · obtain rfl : k = ls.length := by have := HK.out; omega
      rw [List.take_length] at HH
      clear hb HK
      obtain ⟨inn, hin⟩ : ∃ x, x = pi ++ ls.flatten := ⟨_, rfl⟩
      rw [← hin] at HH
      have hinl : inn.length ≤ 1152921504606846976 := by rw [hin, List.length_append, HIL.out]; omega
      have HSUM := hid (HSum_any (g + 1 + 1) inn wr.drew (HH.out.keep rfl) (HG.out.below HB.out.drew (Nat.le_refl _)) hinl)
      have hgl : g < wr.heap.size := block_lt H5.out
      have HOF : Hid (∀ (w5 : World) (b : Nat), Below wr.heap.size wr.drew w5 → w5.heap[b]? = some (.cells (byA (shaB inn)) A32 (0, 0)) → Calls Tryd.prog 24 #[.slice (some ⟨w5.heap.size, 0, none⟩) 2 2] (w5.alloc (.cells #[.slice (some ⟨g, 0, none⟩) 64 64, .slice (some ⟨b, 0, none⟩) 32 32] 22)) (fun e W' => ∃ b', e = .returned (.slice (some ⟨b', 0, none⟩) 32 32) ∧ W'.heap[b']? = some (.cells (byA (shaB (po ++ shaB inn))) A32 (0, 0)) ∧ w5.heap.size < b' ∧ Below w5.heap.size w5 W')) := hid fun w5 b hb5 hk => by
        have h5 : w5.heap[g]? = some (.cells (byA po) 46 (0, 0)) := (hb5.block g hgl).trans H5.out
        have hbw : Below w.heap.size w w5 := HB.out.trans ((Below.refl _ _).drew.trans (hb5.mono HB.out.size))
        have h := ofs_any [(some ⟨g, 0, none⟩, po, 64), (some ⟨b, 0, none⟩, shaB inn, 32)] w5 (by
          intro p hp
          rcases List.mem_cons.1 hp with rfl | hp
          · exact (lie_block h5).sq (by rw [bvs_length, HOL.out]; exact Nat.le_refl 64) (show 64 ≤ 9223372036854775807 by omega)
          · rw [List.mem_singleton] at hp
            subst hp
            exact (lie_block hk).sq (by rw [bvs_length, shaB_length]; exact Nat.le_refl 32) (show 32 ≤ 9223372036854775807 by omega)) (HG.out.below hbw (Nat.le_refl _)) (by simp [HOL.out, shaB_length]) (by simp)
        simp only [List.map_cons, List.map_nil, List.flatten_cons, List.flatten_nil, List.append_nil, List.length_cons, List.length_nil, HOL.out, shaB_length] at h
        exact h
      have HIN := hid hin
      have hfin : macB key ls.flatten = shaB (po ++ shaB inn) := by rw [hin, HPO.out, HPI.out]; rfl
      have HFIN := hid hfin
      clear hin hinl hfin
      go_wp2
      go_region_law (first
        | (go_simp; go_at_call 29; refine HSUM.out.mono ?_; rintro e w5 ⟨v5, rfl, ⟨b5, rfl, hbk5, hbz5, hl5⟩, hb5⟩)
        | (go_simp; go_at_call 24; refine (HOF.out w5 b5 hb5 hbk5).mono ?_; rintro e w6 ⟨b6, rfl, hbk6, hbz6, hb6⟩))
      have HD : Hid (Digest w w6 (.slice (some ⟨b6, 0, none⟩) 32 32) (macB key ls.flatten)) := hid ⟨b6, rfl, by rw [HFIN.out]; exact hbk6, by have := HB.out.size; have := hb5.size; simp at this; omega, macB_length _ _⟩
      have HB6 := hid (HB.out.trans ((Below.refl _ _).drew.trans ((hb5.trans (hb6.mono (by have := hb5.size; simpa using this))).mono HB.out.size)))
      clear hbk5 hbk6 hb5 hb6 HFIN HOF HSUM
      go_wp2
      go_ret
      exact ⟨_, rfl, HD.out, HB6.out⟩

/-- The tag of parts that stand in a new row. -/
theorem tags_any (A : Option Addr) (key : List UInt8) (c : Nat) (l : List (Option Addr × List UInt8 × Nat)) (w : World) (hA : Sq w w.heap.size A c (bvs key)) (h : ∀ p ∈ l, Sq w w.heap.size p.1 p.2.2 (bvs p.2.1)) (hG : Glob w)
    (hn : key.length ≤ 1152921504606846976) (hn2 : (l.map fun p => p.2.1).flatten.length ≤ 1152921504606840000) (hl : l.length ≤ 9223372036854775807) :
    Calls Tryd.prog 17 #[.slice A key.length c, .slice (some ⟨w.heap.size, 0, none⟩) l.length l.length] (w.alloc (.cells (l.map fun p => Value.slice p.1 p.2.1.length p.2.2).toArray 22)) (fun e W' => ∃ b, e = .returned (.slice (some ⟨b, 0, none⟩) 32 32) ∧ W'.heap[b]? = some (.cells (byA (macB key (l.map fun p => p.2.1).flatten)) A32 (0, 0)) ∧ w.heap.size < b ∧ Below w.heap.size w W') := by
  have hr := rows_new w l h 22
  have hb : Below w.heap.size w (w.alloc (.cells (l.map fun p => Value.slice p.1 p.2.1.length p.2.2).toArray 22)) := (Below.refl _ _).alloc (Nat.le_refl _) _
  have h1 := Tag_any A key c (some ⟨w.heap.size, 0, none⟩) (l.map fun p => p.2.1) l.length (w.alloc (.cells (l.map fun p => Value.slice p.1 p.2.1.length p.2.2).toArray 22)) ((hA.below hb).more hb.size) (by simpa using hr) (hG.below hb (Nat.le_refl _)) hn hn2 (by simpa using hl)
  rw [List.length_map] at h1
  exact h1.mono fun e W' ⟨v, he, ⟨b, hv, hbk, hbz, _⟩, hB⟩ => ⟨b, by rw [he, hv], hbk, by rw [World.size_alloc] at hbz; omega, hb.trans (hB.mono (by simp))⟩
end Go.Proofs.YtpdkpadpdkagoaaDoor
