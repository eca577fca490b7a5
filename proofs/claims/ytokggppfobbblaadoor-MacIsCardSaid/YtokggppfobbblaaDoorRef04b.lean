/-
  The document's own tag, whole.
-/
import Derived.Test.YtokggppfobbblaaDoorRef04
namespace Go.Proofs.YtokggppfobbblaaDoor
open Go.RowKit
set_option linter.unusedVariables false
set_option linter.unusedSimpArgs false

set_option maxRecDepth 100000 in
set_option maxHeartbeats 1600000 in
theorem ref4_tag (A : Option Addr) (key : List UInt8) (c : Nat) (A' : Option Addr) (text : List UInt8) (c' : Nat) (w : World) (hA : Sq w w.heap.size A c (bvs key)) (hA' : Sq w w.heap.size A' c' (bvs text)) (hn : key.length ≤ 1000000000) (hn2 : text.length ≤ 1000000000) :
    Calls Tryd.prog 20 #[.slice A key.length c, .slice A' text.length c'] w fun e w' => ∃ v, e = .returned v ∧ OwnB w' w.heap.size v (macB key text) ∧ Below w.heap.size w w' := by
  have HA := hid hA; have HA' := hid hA'
  by_cases h64 : 64 < key.length
  · have hx : (64 : Int) < (key.length : Int) := by omega
    have HD := hid (ref2_digest A key c w (by omega) hA)
    have HPK : Hid (padK key = shaB key) := hid (by unfold padK; rw [if_pos h64])
    clear hA hA' h64
    go_enter Tryd.func20, Tryd.ntmps20
    go_wp2_with fail
    refine HD.out.mono ?_
    rintro e w1 ⟨v, rfl, ho1, hb1⟩
    obtain ⟨A1, c1, rfl, hS1⟩ := own_sl ho1
    rw [← HPK.out] at hS1
    rw [← HPK.out]
    have HK1 : Hid (Lie w1 w1.heap.size A1 (bvs (padK key))) := hid hS1.lie
    have HB1 := hid hb1
    have HKL : Hid ((padK key).length ≤ 64) := hid (padK_length key)
    clear ho1 hS1 hb1 HD HPK
    go_wp2
    refine pads_loop A1 (padK key) c1 w1 _ _ _ _ _ _ _ _ _ _ _ _ _ _ _ _ _ _ _ _ _ _ _ _ _ _ _ _ _ _ _ _ _ _ _ _ _ _ _ HK1.out (by have := HKL.out; omega) ?_
    intro vi vo w2 u7 u8 u14 u15 u16 u17 u18 u19 u20 u21 u22 u23 u24 u25 u26 u27 u28 u29 u30 u31 u32 u33 u34 u35 hvi hvo hne hb2
    obtain ⟨Ai, ci, rfl, _⟩ := own_sl hvi
    obtain ⟨Ao, co, rfl, _⟩ := own_sl hvo
    have hB2 : Below w.heap.size w w2 := HB1.out.trans (hb2.mono HB1.out.size)
    have hzz : w1.heap.size ≤ w2.heap.size := hb2.size
    have hwz : w.heap.size ≤ w1.heap.size := HB1.out.size
    rw [padX_length, padX_length] at hne
    rw [padX_length, padX_length]
    have HVI : Hid (w2.ownsRow w1.heap.size 5 1 (.slice Ai 64 ci) 64 (bvs (padX 54 (padK key)))) := hid (by have h := hvi; unfold OwnB at h; rwa [padX_length] at h)
    have HVO : Hid (w2.ownsRow w1.heap.size 5 1 (.slice Ao 64 co) 64 (bvs (padX 92 (padK key)))) := hid (by have h := hvo; unfold OwnB at h; rwa [padX_length] at h)
    have HNE := hid hne; have HB2 := hid hB2
    have HT2 : Hid (Lie w2 w.heap.size A' (bvs text)) := hid (HA'.out.lie.below hB2)
    clear hvi hvo hne hb2 hB2
    go_wp2_with (at_builtin; refine wpList_append_lie rfl (.tmp 37) (.tmp 38) 22 rfl w1.heap.size 5 (.int .u8 0) 1 Tryd.underlying22 infoU8 rfl rfl HVI.out (bvs_length text) rfl HT2.out (bvs_one text) (by unfold maxLen; omega) (by omega) hzz ?_)
    intro v3 w3 hown3 hg3 _
    have ho3 : OwnB w3 w1.heap.size v3 (padX 54 (padK key) ++ text) := by unfold OwnB; rw [bvs_append, List.length_append, padX_length]; exact hown3
    have hvo3 : w3.ownsRow w1.heap.size 5 1 (.slice Ao 64 co) 64 (bvs (padX 92 (padK key))) := World.ownsRow.kept HVO.out hg3 (by
      rcases hq : (Value.slice Ao 64 co).ownBlock with _ | q
      · exact .inl rfl
      · exact .inr fun e => HNE.out q hq e.symm)
    have hB3 : Below w.heap.size w w3 := HB2.out.grown hg3 HB2.out.size (fun q h => by have := own_lt HVI.out q h; omega)
    have hz3 : w1.heap.size ≤ w3.heap.size := by have := hg3.size; omega
    obtain ⟨A3, c3, rfl, hS3⟩ := own_sl ho3
    have HD3 := hid (ref2_digest A3 (padX 54 (padK key) ++ text) c3 w3 (by rw [List.length_append, padX_length]; omega) hS3.sq)
    rw [List.length_append, padX_length] at HD3
    rw [List.length_append, padX_length]
    have HVO3 := hid hvo3; have HB3 := hid hB3
    clear hown3 hg3 ho3 hvo3 hB3 hS3 HVI HVO HT2
    go_wp2_with fail
    refine HD3.out.mono ?_
    rintro e w4 ⟨v4, rfl, ho4, hb4⟩
    obtain ⟨inn, hin⟩ : ∃ x, x = shaB (padX 54 (padK key) ++ text) := ⟨_, rfl⟩
    rw [← hin] at ho4
    have hil : inn.length = 32 := by rw [hin]; exact shaB_length _
    obtain ⟨A4, c4, rfl, hS4⟩ := own_sl ho4
    have hB4 : Below w.heap.size w w4 := HB3.out.trans (hb4.mono HB3.out.size)
    have hz4 : w1.heap.size ≤ w4.heap.size := by have := hb4.size; omega
    have HVO4 : Hid (w4.ownsRow w1.heap.size 5 1 (.slice Ao 64 co) 64 (bvs (padX 92 (padK key)))) := hid (World.ownsRow.kept HVO3.out (grown_of_below hb4) (Classical.em _))
    have HL4 := hid hS4.lie; have HB4 := hid hB4; have HIN := hid hin; have HIL := hid hil
    clear ho4 hb4 hS4 hB4 hin hil HD3 HVO3
    go_wp2_with (at_builtin; refine wpList_append_lie rfl (.tmp 36) (.tmp 40) 22 rfl w1.heap.size 5 (.int .u8 0) 1 Tryd.underlying22 infoU8 rfl rfl HVO4.out (bvs_length inn) rfl HL4.out (bvs_one inn) (by rw [HIL.out]; unfold maxLen; omega) (by rw [HIL.out]; omega) hz4 ?_)
    intro v5 w5 hown5 hg5 _
    have ho5 : OwnB w5 w1.heap.size v5 (padX 92 (padK key) ++ inn) := by unfold OwnB; rw [bvs_append, List.length_append, padX_length]; exact hown5
    have hB5 : Below w.heap.size w w5 := HB4.out.grown hg5 HB4.out.size (fun q h => by have := own_lt HVO4.out q h; omega)
    obtain ⟨A5, c5, rfl, hS5⟩ := own_sl ho5
    have HD5 := hid (ref2_digest A5 (padX 92 (padK key) ++ inn) c5 w5 (by rw [List.length_append, padX_length, HIL.out]; omega) hS5.sq)
    rw [List.length_append, padX_length] at HD5
    rw [List.length_append, padX_length]
    have HB5 := hid hB5
    clear hown5 hg5 ho5 hB5 hS5 HVO4 HL4
    go_wp2_with fail
    refine HD5.out.mono ?_
    rintro e w6 ⟨v6, rfl, ho6, hb6⟩
    have hfin : OwnB w6 w.heap.size v6 (macB key text) := by
      have h := own_base ho6 HB5.out.size
      rw [HIN.out] at h
      exact h
    have HFIN := hid hfin; have HBF := hid (HB5.out.trans (hb6.mono HB5.out.size))
    clear ho6 hb6 hfin HD5
    go_wp2
    go_ret
    exact ⟨_, rfl, HFIN.out, HBF.out⟩
  · have hx : ¬ (64 : Int) < (key.length : Int) := by omega
    have HPK : Hid (padK key = key) := hid (by unfold padK; rw [if_neg h64])
    have HK1 : Hid (Lie w w.heap.size A (bvs key)) := hid hA.lie
    have HB1 : Hid (Below w.heap.size w w) := hid (Below.refl _ _)
    clear hA hA' h64
    go_enter Tryd.func20, Tryd.ntmps20
    go_wp2
    refine pads_loop A key c w _ _ _ _ _ _ _ _ _ _ _ _ _ _ _ _ _ _ _ _ _ _ _ _ _ _ _ _ _ _ _ _ _ _ _ _ _ _ _ HK1.out (by omega) ?_
    rw [← HPK.out]
    intro vi vo w2 u7 u8 u14 u15 u16 u17 u18 u19 u20 u21 u22 u23 u24 u25 u26 u27 u28 u29 u30 u31 u32 u33 u34 u35 hvi hvo hne hb2
    obtain ⟨Ai, ci, rfl, _⟩ := own_sl hvi
    obtain ⟨Ao, co, rfl, _⟩ := own_sl hvo
    have hB2 : Below w.heap.size w w2 := HB1.out.trans (hb2.mono HB1.out.size)
    have hzz : w.heap.size ≤ w2.heap.size := hb2.size
    have hwz : w.heap.size ≤ w.heap.size := HB1.out.size
    rw [padX_length, padX_length] at hne
    rw [padX_length, padX_length]
    have HVI : Hid (w2.ownsRow w.heap.size 5 1 (.slice Ai 64 ci) 64 (bvs (padX 54 (padK key)))) := hid (by have h := hvi; unfold OwnB at h; rwa [padX_length] at h)
    have HVO : Hid (w2.ownsRow w.heap.size 5 1 (.slice Ao 64 co) 64 (bvs (padX 92 (padK key)))) := hid (by have h := hvo; unfold OwnB at h; rwa [padX_length] at h)
    have HNE := hid hne; have HB2 := hid hB2
    have HT2 : Hid (Lie w2 w.heap.size A' (bvs text)) := hid (HA'.out.lie.below hB2)
    clear hvi hvo hne hb2 hB2
    go_wp2_with (at_builtin; refine wpList_append_lie rfl (.tmp 37) (.tmp 38) 22 rfl w.heap.size 5 (.int .u8 0) 1 Tryd.underlying22 infoU8 rfl rfl HVI.out (bvs_length text) rfl HT2.out (bvs_one text) (by unfold maxLen; omega) (by omega) hzz ?_)
    intro v3 w3 hown3 hg3 _
    have ho3 : OwnB w3 w.heap.size v3 (padX 54 (padK key) ++ text) := by unfold OwnB; rw [bvs_append, List.length_append, padX_length]; exact hown3
    have hvo3 : w3.ownsRow w.heap.size 5 1 (.slice Ao 64 co) 64 (bvs (padX 92 (padK key))) := World.ownsRow.kept HVO.out hg3 (by
      rcases hq : (Value.slice Ao 64 co).ownBlock with _ | q
      · exact .inl rfl
      · exact .inr fun e => HNE.out q hq e.symm)
    have hB3 : Below w.heap.size w w3 := HB2.out.grown hg3 HB2.out.size (fun q h => by have := own_lt HVI.out q h; omega)
    have hz3 : w.heap.size ≤ w3.heap.size := by have := hg3.size; omega
    obtain ⟨A3, c3, rfl, hS3⟩ := own_sl ho3
    have HD3 := hid (ref2_digest A3 (padX 54 (padK key) ++ text) c3 w3 (by rw [List.length_append, padX_length]; omega) hS3.sq)
    rw [List.length_append, padX_length] at HD3
    rw [List.length_append, padX_length]
    have HVO3 := hid hvo3; have HB3 := hid hB3
    clear hown3 hg3 ho3 hvo3 hB3 hS3 HVI HVO HT2
    go_wp2_with fail
    refine HD3.out.mono ?_
    rintro e w4 ⟨v4, rfl, ho4, hb4⟩
    obtain ⟨inn, hin⟩ : ∃ x, x = shaB (padX 54 (padK key) ++ text) := ⟨_, rfl⟩
    rw [← hin] at ho4
    have hil : inn.length = 32 := by rw [hin]; exact shaB_length _
    obtain ⟨A4, c4, rfl, hS4⟩ := own_sl ho4
    have hB4 : Below w.heap.size w w4 := HB3.out.trans (hb4.mono HB3.out.size)
    have hz4 : w.heap.size ≤ w4.heap.size := by have := hb4.size; omega
    have HVO4 : Hid (w4.ownsRow w.heap.size 5 1 (.slice Ao 64 co) 64 (bvs (padX 92 (padK key)))) := hid (World.ownsRow.kept HVO3.out (grown_of_below hb4) (Classical.em _))
    have HL4 := hid hS4.lie; have HB4 := hid hB4; have HIN := hid hin; have HIL := hid hil
    clear ho4 hb4 hS4 hB4 hin hil HD3 HVO3
    go_wp2_with (at_builtin; refine wpList_append_lie rfl (.tmp 36) (.tmp 40) 22 rfl w.heap.size 5 (.int .u8 0) 1 Tryd.underlying22 infoU8 rfl rfl HVO4.out (bvs_length inn) rfl HL4.out (bvs_one inn) (by rw [HIL.out]; unfold maxLen; omega) (by rw [HIL.out]; omega) hz4 ?_)
    intro v5 w5 hown5 hg5 _
    have ho5 : OwnB w5 w.heap.size v5 (padX 92 (padK key) ++ inn) := by unfold OwnB; rw [bvs_append, List.length_append, padX_length]; exact hown5
    have hB5 : Below w.heap.size w w5 := HB4.out.grown hg5 HB4.out.size (fun q h => by have := own_lt HVO4.out q h; omega)
    obtain ⟨A5, c5, rfl, hS5⟩ := own_sl ho5
    have HD5 := hid (ref2_digest A5 (padX 92 (padK key) ++ inn) c5 w5 (by rw [List.length_append, padX_length, HIL.out]; omega) hS5.sq)
    rw [List.length_append, padX_length] at HD5
    rw [List.length_append, padX_length]
    have HB5 := hid hB5
    clear hown5 hg5 ho5 hB5 hS5 HVO4 HL4
    go_wp2_with fail
    refine HD5.out.mono ?_
    rintro e w6 ⟨v6, rfl, ho6, hb6⟩
    have hfin : OwnB w6 w.heap.size v6 (macB key text) := by
      have h := own_base ho6 HB5.out.size
      rw [HIN.out] at h
      exact h
    have HFIN := hid hfin; have HBF := hid (HB5.out.trans (hb6.mono HB5.out.size))
    clear ho6 hb6 hfin HD5
    go_wp2
    go_ret
    exact ⟨_, rfl, HFIN.out, HBF.out⟩
end Go.Proofs.YtokggppfobbblaaDoor
