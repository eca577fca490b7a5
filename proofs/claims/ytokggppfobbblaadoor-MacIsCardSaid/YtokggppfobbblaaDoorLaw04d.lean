/-
  The statement MacIs: the walk.
-/
import Derived.Test.YtokggppfobbblaaDoorLaw04a
import Derived.Test.YtokggppfobbblaaDoorRef04b
namespace Go.Proofs.YtokggppfobbblaaDoor
open Go.RowKit
set_option linter.unusedVariables false
set_option linter.unusedSimpArgs false

/-- Two parts that stand in a new row. -/
theorem rows_two (w : World) (A : Option Addr) (a : List UInt8) (c : Nat) (A' : Option Addr) (b : List UInt8) (c' : Nat) (hA : Sq w w.heap.size A c (bvs a)) (hA' : Sq w w.heap.size A' c' (bvs b)) :
    Rows2' (w.alloc (.cells #[.slice A a.length c, .slice A' b.length c'] 22)) (w.alloc (.cells #[.slice A a.length c, .slice A' b.length c'] 22)).heap.size (some ⟨w.heap.size, 0, none⟩) [a, b] := by
  have h := rows_new w [(A, a, c), (A', b, c')] (by
    intro p hp
    rcases List.mem_cons.1 hp with rfl | hp
    · exact hA
    · rw [List.mem_singleton] at hp
      subst hp
      exact hA') 22
  simpa using h

set_option maxRecDepth 100000 in
set_option maxHeartbeats 1600000 in
theorem macIs_any (A0 : Option Addr) (key : List UInt8) (c0 : Nat) (A : Option Addr) (a : List UInt8) (c : Nat) (A' : Option Addr) (b : List UInt8) (c' : Nat) (At : Option Addr) (tag : List UInt8) (ct : Nat) (w : World) (hA0 : Sq w w.heap.size A0 c0 (bvs key)) (hA : Sq w w.heap.size A c (bvs a)) (hA' : Sq w w.heap.size A' c' (bvs b)) (hAt : Sq w w.heap.size At ct (bvs tag)) (hG : Glob w) :
    Calls Tryd.prog 6 #[.slice A0 key.length c0, .slice A a.length c, .slice A' b.length c', .slice At tag.length ct] w fun e w' => e = .returned (.bool true) ∧ Below w.heap.size w w' := by
  have HA0 := hid hA0; have HA := hid hA; have HA' := hid hA'; have HAT := hid hAt; have HG := hid hG
  clear hA0 hA hA' hAt hG
  by_cases h0 : 150 < key.length
  · have hx : (150 : Int) < (key.length : Int) := by omega
    go_enter Tryd.func6, Tryd.ntmps6
    go_wp2_with fail
    refine (alive4_any _ HG.out).mono ?_
    rintro e w1 ⟨rfl, hb1⟩
    go_wp2
    go_ret
    exact ⟨rfl, hb1⟩
    
  have hx0 : ¬ (150 : Int) < (key.length : Int) := by omega
  have hx0' : decide ((150 : Int) < (key.length : Int)) = false := by simpa using hx0
  by_cases h1 : 100 < a.length
  · have hx : (100 : Int) < (a.length : Int) := by omega
    go_enter Tryd.func6, Tryd.ntmps6
    go_wp2_with fail
    refine (alive4_any _ HG.out).mono ?_
    rintro e w1 ⟨rfl, hb1⟩
    go_wp2
    go_ret
    exact ⟨rfl, hb1⟩
    
  have hx1 : ¬ (100 : Int) < (a.length : Int) := by omega
  have hx1' : decide ((100 : Int) < (a.length : Int)) = false := by simpa using hx1
  by_cases h2 : 100 < b.length
  · have hx : (100 : Int) < (b.length : Int) := by omega
    go_enter Tryd.func6, Tryd.ntmps6
    go_wp2_with fail
    refine (alive4_any _ HG.out).mono ?_
    rintro e w1 ⟨rfl, hb1⟩
    go_wp2
    go_ret
    exact ⟨rfl, hb1⟩
    
  have hx2 : ¬ (100 : Int) < (b.length : Int) := by omega
  have hx2' : decide ((100 : Int) < (b.length : Int)) = false := by simpa using hx2
  by_cases h3 : 100 < tag.length
  · have hx : (100 : Int) < (tag.length : Int) := by omega
    go_enter Tryd.func6, Tryd.ntmps6
    go_wp2_with fail
    refine (alive4_any _ HG.out).mono ?_
    rintro e w1 ⟨rfl, hb1⟩
    go_wp2
    go_ret
    exact ⟨rfl, hb1⟩
    
  have hx3 : ¬ (100 : Int) < (tag.length : Int) := by omega
  have hx3' : decide ((100 : Int) < (tag.length : Int)) = false := by simpa using hx3
  go_enter Tryd.func6, Tryd.ntmps6
  go_wp2_with fail
  refine (alive4_any _ HG.out).mono ?_
  rintro e w1 ⟨rfl, hb1⟩
  have hw1 := hb1.size
  have hAl1 : Lie (w1.alloc (.cells #[] 5)) w.heap.size A (bvs a) := (HA.out.lie.below hb1).alloc hw1 _
  have HAL1 := hid hAl1; have HB1 := hid hb1
  clear hAl1 hb1
  go_wp2_with (at_builtin; refine wpList_append_lie rfl _ _ 22 rfl w1.heap.size 5 (.int .u8 0) 1 Tryd.underlying22 infoU8 rfl rfl (empty_row _ _ (k := w1.heap.size) rfl (Nat.le_refl _)) (bvs_length a) rfl HAL1.out (bvs_one a) ?d1 ?d2 ?d3 ?_)
  case d1 => unfold maxLen; omega
  case d2 => omega
  case d3 => simp
  intro v2 w2 hown2 hg2 hat2
  have hO2 : OwnB w2 w1.heap.size v2 a := by simpa [OwnB] using hown2
  have hB2 : Below w.heap.size w w2 := (HB1.out.alloc hw1 _).grown hg2 (by simp; omega) (fun q h => by simp [Value.ownBlock] at h; omega)
  have hw2 : w1.heap.size < w2.heap.size := Nat.lt_of_lt_of_le (by simp) hg2.size
  obtain ⟨A2, c2, rfl, _⟩ := own_sl hO2
  have HAL2 : Hid (Lie w2 w.heap.size A' (bvs b)) := hid (HA'.out.lie.below hB2)
  have HB2 := hid hB2; have HO2 := hid hO2
  clear hB2 hO2 hown2 hg2 hat2 HAL1
  go_wp2_with (at_builtin; refine wpList_append_lie rfl _ _ 22 rfl w1.heap.size 5 (.int .u8 0) 1 Tryd.underlying22 infoU8 rfl rfl HO2.out (bvs_length b) rfl HAL2.out (bvs_one b) ?e1 ?e2 ?e3 ?_)
  case e1 => unfold maxLen; omega
  case e2 => omega
  case e3 => omega
  intro v3 w3 hown3 hg3 hat3
  have hO3 : OwnB w3 w1.heap.size v3 (a ++ b) := by unfold OwnB; rw [bvs_append, List.length_append]; exact hown3
  have hB3 : Below w.heap.size w w3 := HB2.out.grown hg3 HB2.out.size (fun q h => by have := own_lt HO2.out q h; omega)
  obtain ⟨A3, c3, rfl, hS3⟩ := own_sl hO3
  have HD := hid (ref4_tag A0 key c0 A3 (a ++ b) c3 w3 ((HA0.out.below hB3).more hB3.size) hS3.sq (by omega) (by rw [List.length_append]; omega))
  have HB3 := hid hB3
  rw [List.length_append] at HD
  rw [List.length_append]
  clear hown3 hg3 hat3 hO3 hB3 hS3 HAL2 HO2
  go_wp2_with fail
  refine HD.out.mono ?_
  rintro e w4 ⟨v4, rfl, ho4, hb4⟩
  obtain ⟨want, hwant⟩ : ∃ x, x = macB key (a ++ b) := ⟨_, rfl⟩
  rw [← hwant] at ho4
  have hwl : want.length = 32 := by rw [hwant]; exact macB_length _ _
  obtain ⟨A4, c4, rfl, hS4⟩ := own_sl ho4
  rw [hwl]
  have HW : Hid (want = macB key ([a, b]).flatten) := hid (by rw [hwant]; simp)
  have HWT : Hid (∀ W, Below w4.heap.size w4 W → Below w.heap.size w W) := hid fun W hW => HB3.out.trans ((hb4.trans (hW.mono hb4.size)).mono HB3.out.size)
  have HL4 : Hid (Lie w4 w4.heap.size A4 (bvs want)) := hid hS4.lie
  have hb40 : Below w.heap.size w w4 := HWT.out w4 (Below.refl _ _)
  have HB40 := hid hb40
  have HT : Hid (∀ W, Below w4.heap.size w4 W → Calls Tryd.prog 21 #[.slice A0 key.length c0, .slice (some ⟨W.heap.size, 0, none⟩) 2 2] (W.alloc (.cells #[.slice A a.length c, .slice A' b.length c'] 22)) (fun e W' => ∃ v, e = .returned v ∧ Digest (W.alloc (.cells #[.slice A a.length c, .slice A' b.length c'] 22)) W' v want ∧ Below w4.heap.size w4 W')) := hid fun W hW => by
    have hB := HWT.out W hW
    have hB2 : Below W.heap.size W (W.alloc (.cells #[.slice A a.length c, .slice A' b.length c'] 22)) := (Below.refl _ _).alloc (Nat.le_refl _) _
    have h := Tag_any A0 key c0 (some ⟨W.heap.size, 0, none⟩) [a, b] 2 (W.alloc (.cells #[.slice A a.length c, .slice A' b.length c'] 22)) (((HA0.out.below hB).more hB.size |>.below hB2).more hB2.size) (rows_two W A a c A' b c' ((HA.out.below hB).more hB.size) ((HA'.out.below hB).more hB.size)) ((HG.out.below hB (Nat.le_refl _)).below hB2 (by have := hB.size; omega)) (by omega) (by simp; omega) (by simp)
    rw [← HW.out] at h
    exact h.mono fun e W' ⟨v, h1, h2, h3⟩ => ⟨v, h1, h2, hW.trans ((hB2.trans (h3.mono hB2.size)).mono hW.size)⟩
  have HI : Hid (∀ W Ax (x : List UInt8) cx, Below w4.heap.size w4 W → Lie W W.heap.size Ax (bvs x) → x.length ≤ 100 → Calls Tryd.prog 22 #[.slice Ax x.length cx, .slice A0 key.length c0, .slice (some ⟨W.heap.size, 0, none⟩) 2 2] (W.alloc (.cells #[.slice A a.length c, .slice A' b.length c'] 22)) (fun e W' => e = .returned (.bool (x == want)) ∧ Below w4.heap.size w4 W')) := hid fun W Ax x cx hW hx hxl => by
    have hB := HWT.out W hW
    have hB2 : Below W.heap.size W (W.alloc (.cells #[.slice A a.length c, .slice A' b.length c'] 22)) := (Below.refl _ _).alloc (Nat.le_refl _) _
    have h := Is_any Ax x cx A0 key c0 (some ⟨W.heap.size, 0, none⟩) [a, b] 2 (W.alloc (.cells #[.slice A a.length c, .slice A' b.length c'] 22)) ((hx.below hB2).more hB2.size) (((HA0.out.below hB).more hB.size |>.below hB2).more hB2.size) (rows_two W A a c A' b c' ((HA.out.below hB).more hB.size) ((HA'.out.below hB).more hB.size)) ((HG.out.below hB (Nat.le_refl _)).below hB2 (by have := hB.size; omega)) (by omega) (by simp; omega) (by simp) (by omega)
    rw [← HW.out] at h
    exact h.mono fun e W' ⟨h1, h3⟩ => ⟨h1, hW.trans ((hB2.trans (h3.mono hB2.size)).mono hW.size)⟩
  have HWL := hid hwl
  clear ho4 hb4 hS4 HD hwant hwl hb40
  go_wp2_with fail
  refine (HT.out w4 (Below.refl _ _)).mono ?_
  rintro e w5 ⟨v5, rfl, ⟨b5, rfl, hk5, hz5, _⟩, hb5⟩
  have HS5 := hid (Same_32 (some ⟨b5, 0, none⟩) want 32 A4 want c4 w5 w5.heap.size w5.heap.size 32 (lie_block hk5) ((HL4.out.below hb5).more hb5.size) HWL.out HWL.out (by omega))
  rw [show (want == want) = true from beq_self_eq_true _] at HS5
  have HB5 := hid hb5
  clear hk5 hz5 hb5 HT
  go_wp2_with fail
  refine HS5.out.mono ?_
  rintro e wx ⟨rfl, n5, rfl⟩
  have hB5 : Below w4.heap.size w4 (w5.drewN n5) := below_drewN HB5.out n5
  have HI6 := hid (HI.out (w5.drewN n5) A4 want c4 hB5 ((HL4.out.below hB5).more hB5.size) (by rw [HWL.out]; omega))
  rw [show (want == want) = true from beq_self_eq_true _, HWL.out] at HI6
  clear HS5 hB5
  go_wp2_with fail
  refine HI6.out.mono ?_
  rintro e w7 ⟨rfl, hb7⟩
  have HI8 := hid (HI.out w7 At tag ct hb7 ((HAT.out.below (HWT.out w7 hb7)).more (HWT.out w7 hb7).size).lie (by omega))
  have HB7 := hid hb7
  clear hb7 HI6
  go_wp2_with fail
  refine HI8.out.mono ?_
  rintro e w9 ⟨rfl, hb9⟩
  have HS9 := Same_any At tag ct A4 want c4 w9 w9.heap.size w9.heap.size (((HAT.out.below (HWT.out w9 hb9)).more (HWT.out w9 hb9).size).lie) ((HL4.out.below hb9).more hb9.size) (by omega)
  rw [HWL.out] at HS9
  have HS9' := hid HS9
  have HB9 := hid (HWT.out w9 hb9)
  clear hb9 HI8 HS9
  generalize (tag == want) = bb at *
  have hbb : (bb == bb) = true := beq_self_eq_true _
  go_wp2_with fail
  refine HS9'.out.mono ?_
  rintro e wx ⟨rfl, n9, rfl⟩
  have HEND := hid (below_drewN HB9.out n9)
  clear HS9' HB9
  go_wp2
  go_ret
  exact ⟨rfl, HEND.out⟩
end Go.Proofs.YtokggppfobbblaaDoor
