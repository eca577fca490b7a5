/-
  The statement KdfLabels: the walk.
-/
import Derived.Test.YtpdkpadpdkagoaaDoorLaw05a
import Derived.Test.YtpdkpadpdkagoaaDoorRef05b
namespace Go.Proofs.YtpdkpadpdkagoaaDoor
open Go.RowKit
set_option linter.unusedVariables false
set_option linter.unusedSimpArgs false

set_option maxRecDepth 100000 in
set_option maxHeartbeats 1600000 in
theorem kdfLabels_any (A : Option Addr) (key : List UInt8) (c : Nat) (s : ByteArray) (A' : Option Addr) (ctx : List UInt8) (c' : Nat) (n : Int) (w : World) (hA : Sq w w.heap.size A c (bvs key)) (hA' : Sq w w.heap.size A' c' (bvs ctx)) (hn0 : 0 ≤ n) (hn1 : n ≤ 255) (hG : Glob w) :
    Calls Tryd.prog 4 #[.slice A key.length c, .string s, .slice A' ctx.length c', .int .u8 n] w fun e w' => e = .returned (.bool true) ∧ Below w.heap.size w w' := by
  have HA := hid hA; have HA' := hid hA'; have HG := hid hG
  clear hA hA' hG
  by_cases h1 : 100 < key.length
  · have hx : (100 : Int) < (key.length : Int) := by omega
    go_enter Tryd.func4, Tryd.ntmps4
    go_wp2_with fail
    refine (alive5_any _ HG.out).mono ?_
    rintro e w1 ⟨rfl, hb1⟩
    go_wp2
    go_ret
    exact ⟨rfl, hb1⟩
  have hx1 : ¬ (100 : Int) < (key.length : Int) := by omega
  have hx1' : decide ((100 : Int) < (key.length : Int)) = false := by simpa using hx1
  by_cases h2 : 100 < s.size
  · have hx : (100 : Int) < (s.size : Int) := by omega
    go_enter Tryd.func4, Tryd.ntmps4
    go_wp2_with fail
    refine (alive5_any _ HG.out).mono ?_
    rintro e w1 ⟨rfl, hb1⟩
    go_wp2
    go_ret
    exact ⟨rfl, hb1⟩
  have hx2 : ¬ (100 : Int) < (s.size : Int) := by omega
  have hx2' : decide ((100 : Int) < (s.size : Int)) = false := by simpa using hx2
  by_cases h3 : 100 < ctx.length
  · have hx : (100 : Int) < (ctx.length : Int) := by omega
    go_enter Tryd.func4, Tryd.ntmps4
    go_wp2_with fail
    refine (alive5_any _ HG.out).mono ?_
    rintro e w1 ⟨rfl, hb1⟩
    go_wp2
    go_ret
    exact ⟨rfl, hb1⟩
  have hx3 : ¬ (100 : Int) < (ctx.length : Int) := by omega
  have hx3' : decide ((100 : Int) < (ctx.length : Int)) = false := by simpa using hx3
  obtain ⟨k, hk⟩ : ∃ k : Nat, k = n.toNat % 70 := ⟨_, rfl⟩
  have htk : Int.tmod n 70 = (k : Int) := by rw [hk, Int.tmod_eq_emod_of_nonneg hn0]; omega
  have hwn : IntKind.i64.wrap n = n := IntWalk.i64_in _ (by omega)
  have hk70 : k < 70 := by omega
  clear hk
  go_enter Tryd.func4, Tryd.ntmps4
  go_wp2_with fail
  refine (alive5_any _ HG.out).mono ?_
  rintro e w1 ⟨rfl, hb1⟩
  have HX1 := hid (Label_ok A key c s A' ctx c' k w1 ((HA.out.below hb1).more hb1.size) ((HA'.out.below hb1).more hb1.size).lie (HG.out.below hb1 (Nat.le_refl _)) (by omega) (by omega) (by omega) (by omega))
  have HB1 := hid hb1
  clear hb1
  go_wp2_with fail
  refine HX1.out.mono ?_
  rintro e w2 ⟨v2, rfl, ho2, hb2⟩
  obtain ⟨A2, c2, rfl, hS2⟩ := own_sl ho2
  rw [kdfB_length]
  have HB2 := hid (HB1.out.trans (hb2.mono HB1.out.size)); have HL2 := hid hS2.lie
  clear ho2 hb2 hS2 HX1 HB1
  go_wp2_with fail
  refine (Label_bad _ _ _ (-1) w2 (by decide)).mono ?_
  rintro e w3 ⟨rfl, rfl⟩
  go_wp2_with fail
  refine (Label_bad _ _ _ 8161 w2 (by decide)).mono ?_
  rintro e w3 ⟨rfl, rfl⟩
  have HX2 := hid (ref5_label A key c s A' ctx c' k w2 ((HA.out.below HB2.out).more HB2.out.size) ((HA'.out.below HB2.out).more HB2.out.size).lie (by omega) (by omega) (by omega) (by omega))
  go_wp2_with fail
  refine HX2.out.mono ?_
  rintro e w3 ⟨A3, c3, rfl, hl3, hb3⟩
  obtain ⟨want, hwant⟩ : ∃ x, x = kdfB key (labB (sby s) ctx k) k := ⟨_, rfl⟩
  rw [← hwant] at hl3 HL2
  have hwl : want.length = k := by rw [hwant, kdfB_length]
  have HS3 := hid (Same_32 A2 want c2 A3 want c3 w3 w3.heap.size w3.heap.size k ((HL2.out.below hb3).more hb3.size) hl3 hwl hwl (by omega))
  rw [show (want == want) = true from beq_self_eq_true _] at HS3
  have HB3 := hid (HB2.out.trans (hb3.mono HB2.out.size))
  clear hl3 hb3 HX2 HL2 HB2 hwant hwl
  go_wp2_with fail
  refine HS3.out.mono ?_
  rintro e wx ⟨rfl, n3, rfl⟩
  have HB4 := hid (below_drewN HB3.out n3)
  obtain ⟨w4, hw4⟩ : ∃ w4, w4 = w3.drewN n3 := ⟨_, rfl⟩
  rw [← hw4] at HB4
  rw [← hw4]
  clear hw4 HS3 HB3
  have HX4 := hid (Secret_ok A key c s w4 ((HA.out.below HB4.out).more HB4.out.size) (HG.out.below HB4.out (Nat.le_refl _)) (by omega) (by omega))
  go_wp2_with fail
  refine HX4.out.mono ?_
  rintro e w5 ⟨v5, rfl, ho5, hb5⟩
  obtain ⟨A5, c5, rfl, hS5⟩ := own_sl ho5
  rw [kdfB_length]
  have hB5 := HB4.out.trans (hb5.mono HB4.out.size)
  have HX5 := ref5_label A key c s none [] 0 32 w5 ((HA.out.below hB5).more hB5.size) Lie.nil (by omega) (by omega) (by omega) (by simp)
  simp only [List.length_nil] at HX5
  have HX5 := hid HX5; have HB5 := hid hB5; have HL5 := hid hS5.lie
  clear ho5 hb5 hS5 hB5 HX4 HB4
  go_wp2_with fail
  refine HX5.out.mono ?_
  rintro e w6 ⟨A6, c6, rfl, hl6, hb6⟩
  obtain ⟨want2, hwant2⟩ : ∃ x, x = kdfB key (labB (sby s) [] 32) 32 := ⟨_, rfl⟩
  rw [← hwant2] at hl6 HL5
  have hwl2 : want2.length = 32 := by rw [hwant2, kdfB_length]
  have HS6 := hid (Same_32 A5 want2 c5 A6 want2 c6 w6 w6.heap.size w6.heap.size 32 ((HL5.out.below hb6).more hb6.size) hl6 hwl2 hwl2 (by omega))
  rw [show (want2 == want2) = true from beq_self_eq_true _] at HS6
  have HB6 := hid (HB5.out.trans (hb6.mono HB5.out.size))
  clear hl6 hb6 HX5 HL5 HB5 hwant2 hwl2
  go_wp2_with fail
  refine HS6.out.mono ?_
  rintro e wx ⟨rfl, n6, rfl⟩
  have HB7 := hid (below_drewN HB6.out n6)
  obtain ⟨w7, hw7⟩ : ∃ w7, w7 = w6.drewN n6 := ⟨_, rfl⟩
  rw [← hw7] at HB7
  rw [← hw7]
  clear hw7 HS6 HB6
  have HX7 := hid (Ref_ok s A' ctx c' w7 (by omega) ((HA'.out.below HB7.out).more HB7.out.size).lie (HG.out.below HB7.out (Nat.le_refl _)) (by omega))
  go_wp2_with fail
  refine HX7.out.mono ?_
  rintro e w8 ⟨g8, rfl, hg8, hz8, hb8⟩
  have hB8 := HB7.out.trans (hb8.mono HB7.out.size)
  have HX8 := hid (ref5_ref s A' ctx c' w8 (by omega) ((HA'.out.below hB8).more hB8.size).lie (by omega))
  have HB8 := hid hB8; have HL8 := hid (lie_block hg8)
  clear hg8 hz8 hb8 hB8 HX7 HB7
  go_wp2_with fail
  refine HX8.out.mono ?_
  rintro e w9 ⟨v9, rfl, ho9, hb9⟩
  obtain ⟨A9, c9, rfl, hS9⟩ := own_sl ho9
  obtain ⟨want3, hwant3⟩ : ∃ x, x = refB (sby s) ctx := ⟨_, rfl⟩
  rw [← hwant3] at HL8 hS9
  rw [← hwant3]
  have hwl3 : want3.length = 32 := by rw [hwant3]; exact shaB_length _
  rw [hwl3]
  have HS9 := hid (Same_32 (some ⟨g8, 0, none⟩) want3 32 A9 want3 c9 w9 w9.heap.size w9.heap.size 32 ((HL8.out.below hb9).more hb9.size) hS9.lie hwl3 hwl3 (by omega))
  rw [show (want3 == want3) = true from beq_self_eq_true _] at HS9
  have HB9 := hid (HB8.out.trans (hb9.mono HB8.out.size))
  clear ho9 hb9 hS9 hwant3 hwl3 HX8 HL8 HB8
  go_wp2_with fail
  refine HS9.out.mono ?_
  rintro e wx ⟨rfl, n9, rfl⟩
  have HEND := hid (below_drewN HB9.out n9)
  clear HS9 HB9
  go_wp2
  go_ret
  exact ⟨rfl, HEND.out⟩
end Go.Proofs.YtpdkpadpdkagoaaDoor
