/-
  The statement ShaIs: the walk.
-/
import Derived.Test.YtokggppfobbblaaDoorLaw02a
import Derived.Test.YtokggppfobbblaaDoorShaT
import Derived.Test.YtokggppfobbblaaDoorRef02i
import Derived.Test.YtokggppfobbblaaDoorRtsB
namespace Go.Proofs.YtokggppfobbblaaDoor
open Go.RowKit
set_option linter.unusedVariables false
set_option linter.unusedSimpArgs false

set_option maxRecDepth 100000 in
set_option maxHeartbeats 800000 in
theorem ref2_sum (A : Option Addr) (all : List UInt8) (c : Nat) (w : World) (hn : all.length ≤ 1099511627776) (hA : Sq w w.heap.size A c (bvs all)) :
    Calls Tryd.prog 12 #[.slice A all.length c] w fun e w' => ∃ v, e = .returned v ∧ OwnB w' w.heap.size v (shaB all) ∧ Below w.heap.size w w' := by
  have HA := hid hA
  have HR := hid (Roots_any w)
  clear hA
  go_enter Tryd.func12, Tryd.ntmps12
  go_wp2_with fail
  refine HR.out.mono ?_
  rintro e w2 ⟨A1, c1, A2, c2, rfl, hS1, hS2, hb⟩
  have HS := hid (sum_any A all c A1 A2 c1 c2 kTab iv w2 iv_ok rfl kTab_lt hn ((HA.out.below hb).more hb.size) hS1 hS2)
  have HB := hid hb
  clear hS1 hS2 hb HR
  go_wp2_with fail
  refine HS.out.mono ?_
  rintro e w4 ⟨v, rfl, ho, hb4⟩
  rw [shaBy_std] at ho
  have HO := hid (own_base ho HB.out.size); have HB4 := hid (HB.out.trans (hb4.mono HB.out.size))
  clear ho hb4
  go_wp2
  go_ret
  exact ⟨_, rfl, HO.out, HB4.out⟩

set_option maxRecDepth 100000 in
set_option maxHeartbeats 1600000 in
theorem shaIs_any (A : Option Addr) (a : List UInt8) (c : Nat) (w : World) (hA : Sq w w.heap.size A c (bvs a)) (hG : Glob w) :
    Calls Tryd.prog 3 #[.slice A a.length c] w fun e w' => e = .returned (.bool true) ∧ Below w.heap.size w w' := by
  have HA := hid hA; have HG := hid hG
  clear hA hG
  by_cases h1 : 200 < a.length
  · have hx : (200 : Int) < (a.length : Int) := by omega
    go_enter Tryd.func3, Tryd.ntmps3
    go_wp2_with fail
    refine (alive_any _ HG.out).mono ?_
    rintro e w1 ⟨rfl, hb1⟩
    go_wp2
    go_ret
    exact ⟨rfl, hb1⟩
  have hx1 : ¬ (200 : Int) < (a.length : Int) := by omega
  go_enter Tryd.func3, Tryd.ntmps3
  go_wp2_with fail
  refine (alive_any _ HG.out).mono ?_
  rintro e w1 ⟨rfl, hb1⟩
  have HSUM := hid (Sum_any A a c w1 (by omega) ((HA.out.below hb1).more hb1.size) (HG.out.below hb1 (Nat.le_refl _)))
  have HB1 := hid hb1
  clear hb1
  go_wp2_with fail
  refine HSUM.out.mono ?_
  rintro e w6 ⟨rfl, hb6⟩
  obtain ⟨d, hd⟩ : ∃ d, d = byA (shaB a) := ⟨_, rfl⟩
  have hdz : d.size = 32 := by rw [hd]; simp [byA, shaB_length]
  have hdo : d.all (·.oneCell') = true := by rw [hd]; exact byA_one _
  rw [← hd]
  have HI : Hid ((Tryd.prog.info? 24).map (·.size) = some d.size) := hid (info24.trans (congrArg some hdz.symm))
  have HDO := hid hdo
  have HZ : Hid ((#[Value.int .u8 0, .int .u8 0, .int .u8 0, .int .u8 0, .int .u8 0, .int .u8 0, .int .u8 0, .int .u8 0, .int .u8 0, .int .u8 0, .int .u8 0, .int .u8 0, .int .u8 0, .int .u8 0, .int .u8 0, .int .u8 0, .int .u8 0, .int .u8 0, .int .u8 0, .int .u8 0, .int .u8 0, .int .u8 0, .int .u8 0, .int .u8 0, .int .u8 0, .int .u8 0, .int .u8 0, .int .u8 0, .int .u8 0, .int .u8 0, .int .u8 0, .int .u8 0] : Array Value).size = d.size) := hid hdz.symm
  have HB6 := hid (HB1.out.trans (hb6.mono HB1.out.size)); have HDD := hid hd
  clear hb6 hd hdz hdo HSUM HB1
  go_wp2_with (first
    | fail
    | (with_reducible refine wpList_store_row rfl 24 (.tmp 3) _ rfl w6.heap.size d rfl rfl A32 _ (heap_alloc_new _ _) HI.out HZ.out HDO.out ?_; rw [World.setRow_alloc_new]))
  obtain ⟨w8, hw8⟩ : ∃ w8, w8 = w6.alloc (.cells d A32) := ⟨_, rfl⟩
  obtain ⟨D, hD⟩ : ∃ D, D = w6.heap.size := ⟨_, rfl⟩
  have HB8 : Hid (Below w.heap.size w w8) := hid (by rw [hw8]; exact HB6.out.alloc HB6.out.size _)
  have HD8 : Hid (w8.heap[D]? = some (.cells (byA (shaB a)) A32 (0, 0))) := hid (by rw [hw8, hD, HDD.out]; exact heap_alloc_new _ _)
  rw [← hw8, ← hD]
  have hDl : D < w8.heap.size := block_lt HD8.out
  have HRS : Hid (∀ W, Below w8.heap.size w8 W → Calls Tryd.prog 12 #[.slice A a.length c] W (fun e W' => ∃ v, e = .returned v ∧ OwnB W' W.heap.size v (shaB a) ∧ Below W.heap.size W W')) := hid fun W hW => by
    have hB := HB8.out.trans (hW.mono HB8.out.size)
    exact ref2_sum A a c W (by omega) ((HA.out.below hB).more hB.size)
  clear hw8 hD HB6 HI HDO HZ HDD
  refine wp_region_any (by kernel_rfl) ?_
  change wpAny _ _ _ _ _ _ _ (World.drew _)
  obtain ⟨wd, hwd⟩ : ∃ wd, wd = w8.drew := ⟨_, rfl⟩
  have HBD : Hid (Below w8.heap.size w8 wd) := hid (by rw [hwd]; exact (Below.refl _ _).drew)
  rw [← hwd]
  clear hwd
  refine wpAny_take (i := 1) (v := ?vv1) rfl (by kernel_rfl) (by kernel_rfl) (by kernel_rfl) (fun _ _ _ h => h) (Or.inl ⟨by rfl, ?hy1⟩) ?_
  case hy1 => (intro w'; go_simp; try with_reducible rfl)
  try go_simp
  refine wpAny_take (i := 0) (v := ?vv0) rfl (by kernel_rfl) (by kernel_rfl) (by kernel_rfl) (fun _ _ _ h => h) (Or.inl ⟨by rfl, ?hy0⟩) ?_
  case hy0 => (intro w'; go_simp; try with_reducible rfl)
  try go_simp
  refine wpAny_ready (rs := [2]) (by kernel_rfl) (by simp) ?_
  refine AllReady.cons rfl (fun K hK => ?_) AllReady.nil
  go_simp
  go_at_call 12
  with_reducible refine (HRS.out wd HBD.out).mono ?_
  rintro e w9 ⟨v9, rfl, ho9, hb9⟩
  obtain ⟨A9, c9, rfl, hS9⟩ := own_sl ho9
  rw [shaB_length]
  try go_simp
  refine hK _ _ ?_
  clear hK K
  refine wpAny_ready (rs := [3]) (by kernel_rfl) (by simp) ?_
  refine AllReady.cons rfl (fun K hK => ?_) AllReady.nil
  go_simp
  go_at_call 11
  with_reducible refine (Same_32 (some ⟨D, 0, none⟩) (shaB a) 32 A9 (shaB a) c9 w9 w9.heap.size w9.heap.size 32 (lie_block ((hb9.block D (by have := HBD.out.size; omega)).trans ((HBD.out.block D hDl).trans HD8.out))) hS9.lie (shaB_length _) (shaB_length _) (by omega)).mono ?_
  rw [show (shaB a == shaB a) = true from beq_self_eq_true _]
  rintro e wx ⟨rfl, n10, rfl⟩
  try go_simp
  refine hK _ _ ?_
  clear hK K
  refine wpAny_take (i := 4) (v := ?vv4) rfl (by kernel_rfl) (by kernel_rfl) (by kernel_rfl) (fun _ _ _ h => h) (Or.inl ⟨by rfl, ?hy4⟩) ?_
  case hy4 => (intro w'; go_simp; try with_reducible rfl)
  try go_simp
  refine wpAny_done (by kernel_rfl) ?_ _
  have HEND : Hid (∀ n, Below w.heap.size w (w9.drewN n)) := hid fun n => below_drewN (HB8.out.trans ((HBD.out.trans (hb9.mono HBD.out.size)).mono HB8.out.size)) n
  go_wp2
  go_ret
  exact ⟨rfl, HEND.out _⟩
end Go.Proofs.YtokggppfobbblaaDoor
