/-
  The statement ShaMore: the walk.
-/
import Derived.Test.YtokggppfobbblaaDoorLaw02a
import Derived.Test.YtokggppfobbblaaDoorShaT
import Derived.Test.YtokggppfobbblaaDoorRef02j
namespace Go.Proofs.YtokggppfobbblaaDoor
open Go.RowKit
set_option linter.unusedVariables false
set_option linter.unusedSimpArgs false

set_option maxRecDepth 100000 in
set_option maxHeartbeats 1600000 in
theorem shaMore_any (A : Option Addr) (a : List UInt8) (c : Nat) (A' : Option Addr) (b : List UInt8) (c' : Nat) (w : World) (hA : Sq w w.heap.size A c (bvs a)) (hA' : Sq w w.heap.size A' c' (bvs b)) (hG : Glob w) :
    Calls Tryd.prog 4 #[.slice A a.length c, .slice A' b.length c'] w fun e w' => e = .returned (.bool true) ∧ Below w.heap.size w w' := by
  have hc1 := hA.cap; have hc2 := hA'.cap
  rw [bvs_length] at hc1 hc2
  obtain ⟨hc1, hc1'⟩ := hc1; obtain ⟨hc2, hc2'⟩ := hc2
  have HA := hid hA; have HA' := hid hA'; have HG := hid hG
  clear hA hA' hG
  by_cases h1 : 3000 < a.length
  · have hx : (3000 : Int) < (a.length : Int) := by omega
    go_enter Tryd.func4, Tryd.ntmps4
    go_wp2_with fail
    refine (alive_any _ HG.out).mono ?_
    rintro e w1 ⟨rfl, hb1⟩
    go_wp2
    go_ret
    exact ⟨rfl, hb1⟩
  have hx1 : ¬ (3000 : Int) < (a.length : Int) := by omega
  have hx1' : decide ((3000 : Int) < (a.length : Int)) = false := by simpa using hx1
  by_cases h2 : 3000 < b.length
  · have hx : (3000 : Int) < (b.length : Int) := by omega
    go_enter Tryd.func4, Tryd.ntmps4
    go_wp2_with fail
    refine (alive_any _ HG.out).mono ?_
    rintro e w1 ⟨rfl, hb1⟩
    go_wp2
    go_ret
    exact ⟨rfl, hb1⟩
  have hx2 : ¬ (3000 : Int) < (b.length : Int) := by omega
  have hx2' : decide ((3000 : Int) < (b.length : Int)) = false := by simpa using hx2
  go_enter Tryd.func4, Tryd.ntmps4
  go_wp2_with fail
  refine (alive_any _ HG.out).mono ?_
  rintro e w1 ⟨rfl, hb1⟩
  have hw1 := hb1.size
  have hAl1 : Lie (w1.alloc (.cells #[] 5)) w.heap.size A (bvs a) := (HA.out.lie.below hb1).alloc hw1 _
  have HAL1 := hid hAl1; have HB1 := hid hb1
  clear hAl1 hb1
  go_wp2_with (at_builtin; refine wpList_append_lie rfl _ _ 22 rfl w1.heap.size 5 (.int .u8 0) 1 Tryd.underlying22 infoU8 rfl rfl (empty_row _ _ (k := w1.heap.size) rfl (Nat.le_refl _)) (bvs_length a) rfl HAL1.out (bvs_one a) ?d1 ?d2 ?d3 ?_)
  case d1 => unfold maxLen; omega
  case d2 => omega
  case d3 => simp
  intro v2 w2 hown2 hg2 hat2
  have hO2 : OwnB w2 w1.heap.size v2 a := by simpa [OwnB] using hown2
  have hB2 : Below w.heap.size w w2 := (HB1.out.alloc hw1 _).grown hg2 (by simp; omega) (fun q h => by simp [Value.ownBlock] at h; omega)
  have hw2 : w1.heap.size < w2.heap.size := Nat.lt_of_lt_of_le (by simp) hg2.size
  obtain ⟨A2, c2, rfl, _⟩ := own_sl hO2
  have HAL2 : Hid (Lie w2 w.heap.size A' (bvs b)) := hid (HA'.out.lie.below hB2)
  have HB2 := hid hB2; have HO2 := hid hO2
  clear hB2 hO2 hown2 hg2 hat2 HAL1
  go_wp2_with (at_builtin; refine wpList_append_lie rfl _ _ 22 rfl w1.heap.size 5 (.int .u8 0) 1 Tryd.underlying22 infoU8 rfl rfl HO2.out (bvs_length b) rfl HAL2.out (bvs_one b) ?e1 ?e2 ?e3 ?_)
  case e1 => unfold maxLen; omega
  case e2 => omega
  case e3 => omega
  intro v3 w3 hown3 hg3 hat3
  have hO3 : OwnB w3 w1.heap.size v3 (a ++ b) := by unfold OwnB; rw [bvs_append, List.length_append]; exact hown3
  have hB3 : Below w.heap.size w w3 := HB2.out.grown hg3 HB2.out.size (fun q h => by have := own_lt HO2.out q h; omega)
  obtain ⟨A3, c3, rfl, hS3⟩ := own_sl hO3
  have HD := hid (ref2_digest A3 (a ++ b) c3 w3 (by rw [List.length_append]; omega) hS3.sq)
  have HB3 := hid hB3
  rw [List.length_append] at HD
  rw [List.length_append]
  clear hown3 hg3 hat3 hO3 hB3 hS3 HAL2 HO2
  go_wp2_with fail
  refine HD.out.mono ?_
  rintro e w4 ⟨v5, rfl, ho4, hb4⟩
  obtain ⟨A5, c5, rfl, hS5⟩ := own_sl ho4
  rw [shaB_length]
  have hB4 : Below w.heap.size w w4 := HB3.out.trans (hb4.mono HB3.out.size)
  have HL4 : Hid (Lie w4 w4.heap.size A5 (bvs (shaB (a ++ b)))) := hid hS5.lie
  have HSUM := hid (Sum_any A a c w4 (by omega) ((HA.out.below hB4).more hB4.size) (HG.out.below hB4 (Nat.le_refl _)))
  have HB4 := hid hB4
  clear ho4 hb4 hS5 hB4 HD
  go_wp2_with fail
  refine HSUM.out.mono ?_
  rintro e w6 ⟨rfl, hb6⟩
  obtain ⟨d, hd⟩ : ∃ d, d = byA (shaB a) := ⟨_, rfl⟩
  have hdz : d.size = 32 := by rw [hd]; simp [byA, shaB_length]
  have hdo : d.all (·.oneCell') = true := by rw [hd]; exact byA_one _
  rw [← hd]
  have HI : Hid ((Tryd.prog.info? 24).map (·.size) = some d.size) := hid (info24.trans (congrArg some hdz.symm))
  have HDO := hid hdo
  have HZ : Hid ((#[Value.int .u8 0, .int .u8 0, .int .u8 0, .int .u8 0, .int .u8 0, .int .u8 0, .int .u8 0, .int .u8 0, .int .u8 0, .int .u8 0, .int .u8 0, .int .u8 0, .int .u8 0, .int .u8 0, .int .u8 0, .int .u8 0, .int .u8 0, .int .u8 0, .int .u8 0, .int .u8 0, .int .u8 0, .int .u8 0, .int .u8 0, .int .u8 0, .int .u8 0, .int .u8 0, .int .u8 0, .int .u8 0, .int .u8 0, .int .u8 0, .int .u8 0, .int .u8 0] : Array Value).size = d.size) := hid hdz.symm
  have hB6 : Below w.heap.size w w6 := HB4.out.trans (hb6.mono HB4.out.size)
  have HL6 : Hid (Lie w6 w4.heap.size A5 (bvs (shaB (a ++ b)))) := hid (HL4.out.below hb6)
  have hz46 : w4.heap.size ≤ w6.heap.size := hb6.size
  have HDD := hid hd; have HB6 := hid hB6
  clear hb6 hd hdz hdo hB6 HL4 HSUM HB4
  go_wp2_with (first
    | fail
    | (with_reducible refine wpList_store_row rfl 24 (.tmp 6) _ rfl w6.heap.size d rfl rfl A32 _ (heap_alloc_new _ _) HI.out HZ.out HDO.out ?_; rw [World.setRow_alloc_new]))
  obtain ⟨w8, hw8⟩ : ∃ w8, w8 = w6.alloc (.cells d A32) := ⟨_, rfl⟩
  obtain ⟨D, hD⟩ : ∃ D, D = w6.heap.size := ⟨_, rfl⟩
  have HB8 : Hid (Below w.heap.size w w8) := hid (by rw [hw8]; exact HB6.out.alloc HB6.out.size _)
  have HD8 : Hid (w8.heap[D]? = some (.cells (byA (shaB a)) A32 (0, 0))) := hid (by rw [hw8, hD, HDD.out]; exact heap_alloc_new _ _)
  have HL5 : Hid (Lie w8 w8.heap.size A5 (bvs (shaB (a ++ b)))) := hid (by rw [hw8]; exact (HL6.out.alloc (by omega) _).more (by simp; omega))
  rw [← hw8, ← hD]
  have hDl : D < w8.heap.size := block_lt HD8.out
  have HOF : Hid (∀ W, Below w8.heap.size w8 W → Calls Tryd.prog 14 #[.slice (some ⟨W.heap.size, 0, none⟩) 2 2] (W.alloc (.cells #[.slice A a.length c, .slice A' b.length c'] 22)) (fun e W' => ∃ b', e = .returned (.slice (some ⟨b', 0, none⟩) 32 32) ∧ W'.heap[b']? = some (.cells (byA (shaB (a ++ b))) A32 (0, 0)) ∧ W.heap.size < b' ∧ Below W.heap.size W W')) := hid fun W hW => by
    have hB : Below w.heap.size w W := HB8.out.trans (hW.mono HB8.out.size)
    have h := ofs_any [(A, a, c), (A', b, c')] W (by
      intro p hp
      rcases List.mem_cons.1 hp with rfl | hp
      · exact (HA.out.below hB).more hB.size
      · rw [List.mem_singleton] at hp
        subst hp
        exact (HA'.out.below hB).more hB.size) (HG.out.below hB (Nat.le_refl _)) (by simp; omega) (by simp)
    simp only [List.map_cons, List.map_nil, List.flatten_cons, List.flatten_nil, List.append_nil, List.length_cons, List.length_nil] at h
    exact h
  clear hw8 hD HL6 HB6 HI HDO HZ HDD
  refine wp_region_any (by kernel_rfl) ?_
  change wpAny _ _ _ _ _ _ _ (World.drew _)
  obtain ⟨wd, hwd⟩ : ∃ wd, wd = w8.drew := ⟨_, rfl⟩
  have HBD : Hid (Below w8.heap.size w8 wd) := hid (by rw [hwd]; exact (Below.refl _ _).drew)
  rw [← hwd]
  clear hwd
  refine wpAny_take (i := 0) (v := ?vv0) rfl (by kernel_rfl) (by kernel_rfl) (by kernel_rfl) (fun _ _ _ h => h) (Or.inl ⟨by rfl, ?hy0⟩) ?_
  case hy0 => (intro w'; go_simp; try with_reducible rfl)
  try go_simp
  refine wpAny_take (i := 1) (v := ?vv1) rfl (by kernel_rfl) (by kernel_rfl) (by kernel_rfl) (fun _ _ _ h => h) (Or.inl ⟨by rfl, ?hy1⟩) ?_
  case hy1 => (intro w'; go_simp; try with_reducible rfl)
  try go_simp
  refine wpAny_take (i := 4) (v := ?vv4) rfl (by kernel_rfl) (by kernel_rfl) (by kernel_rfl) (fun _ _ _ h => h) (Or.inl ⟨by rfl, ?hy4⟩) ?_
  case hy4 => (intro w'; go_simp; try with_reducible rfl)
  try go_simp
  refine wpAny_ready (rs := [2]) (by kernel_rfl) (by simp) ?_
  refine AllReady.cons rfl (fun K hK => ?_) AllReady.nil
  go_simp
  try go_simp
  refine hK _ _ ?_
  clear hK K
  refine wpAny_ready (rs := [3]) (by kernel_rfl) (by simp) ?_
  refine AllReady.cons rfl (fun K hK => ?_) AllReady.nil
  go_simp
  go_at_call 14
  with_reducible refine (HOF.out wd HBD.out).mono ?_
  rintro e w9 ⟨b9, rfl, hk9, hz9, hb9⟩
  try go_simp
  refine hK _ _ ?_
  clear hK K
  refine wpAny_ready (rs := [5]) (by kernel_rfl) (by simp) ?_
  refine AllReady.cons rfl (fun K hK => ?_) AllReady.nil
  go_simp
  go_at_call 11
  with_reducible refine (Same_32 (some ⟨b9, 0, none⟩) (shaB (a ++ b)) 32 A5 (shaB (a ++ b)) c5 w9 w9.heap.size w9.heap.size 32 (lie_block hk9) ((HL5.out.below (HBD.out.trans (hb9.mono HBD.out.size))).more (by have := HBD.out.size; have := hb9.size; omega)) (shaB_length _) (shaB_length _) (by omega)).mono ?_
  rw [show (shaB (a ++ b) == shaB (a ++ b)) = true from beq_self_eq_true _]
  rintro e wx ⟨rfl, n10, rfl⟩
  try go_simp
  refine hK _ _ ?_
  clear hK K
  refine wpAny_take (i := 6) (v := ?vv6) rfl (by kernel_rfl) (by kernel_rfl) (by kernel_rfl) (fun _ _ _ h => h) (Or.inl ⟨by rfl, ?hy6⟩) ?_
  case hy6 => (intro w'; go_simp; try with_reducible rfl)
  try go_simp
  refine wpAny_take (i := 8) (v := ?vv8) rfl (by kernel_rfl) (by kernel_rfl) (by kernel_rfl) (fun _ _ _ h => h) (Or.inl ⟨by rfl, ?hy8⟩) ?_
  case hy8 => (intro w'; go_simp; try with_reducible rfl)
  try go_simp
  refine wpAny_take (i := 7) (v := ?vv7) rfl (by kernel_rfl) (by kernel_rfl) (by kernel_rfl) (fun _ _ _ h => h) (Or.inl ⟨by rfl, ?hy7⟩) ?_
  case hy7 => (intro w'; go_simp; try with_reducible rfl)
  try go_simp
  refine wpAny_ready (rs := [9]) (by kernel_rfl) (by simp) ?_
  refine AllReady.cons rfl (fun K hK => ?_) AllReady.nil
  go_simp
  go_at_call 13
  have hB10 : Below w8.heap.size w8 (w9.drewN n10) := below_drewN (HBD.out.trans (hb9.mono HBD.out.size)) n10
  have hw10 : Below w.heap.size w (w9.drewN n10) := HB8.out.trans (hB10.mono HB8.out.size)
  with_reducible refine (ref2_digest A a c (w9.drewN n10) (by omega) ((HA.out.below hw10).more hw10.size)).mono ?_
  rintro e w11 ⟨v11, rfl, ho11, hb11⟩
  obtain ⟨A11, c11, rfl, hS11⟩ := own_sl ho11
  rw [shaB_length]
  try go_simp
  refine hK _ _ ?_
  clear hK K
  refine wpAny_ready (rs := [10]) (by kernel_rfl) (by simp) ?_
  refine AllReady.cons rfl (fun K hK => ?_) AllReady.nil
  go_simp
  go_at_call 11
  have hB11 : Below w8.heap.size w8 w11 := hB10.trans (hb11.mono hB10.size)
  with_reducible refine (Same_32 (some ⟨D, 0, none⟩) (shaB a) 32 A11 (shaB a) c11 w11 w11.heap.size w11.heap.size 32 (lie_block ((hB11.block D hDl).trans HD8.out)) hS11.lie (shaB_length _) (shaB_length _) (by omega)).mono ?_
  rw [show (shaB a == shaB a) = true from beq_self_eq_true _]
  rintro e wx ⟨rfl, n12, rfl⟩
  try go_simp
  refine hK _ _ ?_
  clear hK K
  refine wpAny_take (i := 11) (v := ?vv11) rfl (by kernel_rfl) (by kernel_rfl) (by kernel_rfl) (fun _ _ _ h => h) (Or.inl ⟨by rfl, ?hy11⟩) ?_
  case hy11 => (intro w'; go_simp; try with_reducible rfl)
  try go_simp
  refine wpAny_take (i := 12) (v := ?vv12) rfl (by kernel_rfl) (by kernel_rfl) (by kernel_rfl) (fun _ _ _ h => h) (Or.inl ⟨by rfl, ?hy12⟩) ?_
  case hy12 => (intro w'; go_simp; try with_reducible rfl)
  try go_simp
  refine wpAny_done (by kernel_rfl) ?_ _
  have HEND : Hid (∀ n, Below w.heap.size w (w11.drewN n)) := hid fun n => below_drewN (HB8.out.trans (hB11.mono HB8.out.size)) n
  go_wp2
  go_ret
  exact ⟨rfl, HEND.out _⟩
end Go.Proofs.YtokggppfobbblaaDoor
