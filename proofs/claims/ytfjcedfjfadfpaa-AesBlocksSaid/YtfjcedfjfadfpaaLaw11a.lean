/-
  The laws of layer 11: the chapter's example; the bytes.
-/
import Derived.Test.YtfjcedfjfadfpaaAesH
namespace Go.Proofs.Ytfjcedfjfadfpaa
open Go.RowKit
set_option linter.unusedVariables false
set_option linter.unusedSimpArgs false

theorem box_zero : boxC 0 = 99 := by decide +kernel
theorem times_ex : tmN 87 131 = 193 := by decide +kernel
theorem alive11_any (w : World) : Calls Try.prog 6 #[] w fun e w' => e = .returned (.bool true) ∧ Below w.heap.size w w' := by
  have KB : Hid (Calls Try.prog 11 #[.slice none 0 0, .slice none 0 0] w fun e w' => e = .returned (.tuple #[.slice none 0 0, .bool false]) ∧ Below w.heap.size w w') := hid (by
    have h := Block_any none none [] [] 0 0 0 0 w (.inl ⟨rfl, by omega⟩) (.inl ⟨rfl, by omega⟩) rfl rfl
    exact h.mono fun e w' h => by rw [if_neg (by decide)] at h; exact h)
  have KX : Hid (∀ W, Calls Try.prog 9 #[.int .u8 0] W fun e w' => e = .returned (.int .u8 99) ∧ ∃ k, w' = W.drewN k) := hid fun W => by
    have h := Box_any 0 W (by decide)
    rw [box_zero] at h
    exact h
  have KT : Hid (∀ W, Calls Try.prog 7 #[.int .u8 87, .int .u8 131] W fun e w' => e = .returned (.int .u8 193) ∧ W = w') := hid fun W => by
    have h := Times_any 87 131 W (by decide) (by decide)
    rw [times_ex] at h
    exact h
  go_enter Try.func6, Try.ntmps6
  go_wp2_with fail
  refine KB.out.mono ?_
  rintro e w1 ⟨rfl, hb1⟩
  go_wp2_with fail
  refine (KX.out _).mono ?_
  rintro e w2 ⟨rfl, k2, rfl⟩
  go_wp2_with fail
  refine (KT.out _).mono ?_
  rintro e w3 ⟨rfl, rfl⟩
  go_wp2
  go_ret
  exact ⟨rfl, ⟨hb1.os, hb1.tape, hb1.output, hb1.size, hb1.block⟩⟩
set_option maxHeartbeats 1000000 in
theorem bytes11_any (za zb : Int) (w : World) (ha0 : 0 ≤ za) (ha1 : za ≤ 255) (hb0 : 0 ≤ zb) (hb1 : zb ≤ 255) :
    Calls Try.prog 3 #[.int .u8 za, .int .u8 zb] w fun e w' => e = .returned (.bool true) ∧ Below w.heap.size w w' := by
  obtain ⟨a, rfl⟩ := Int.eq_ofNat_of_zero_le ha0
  obtain ⟨b, rfl⟩ := Int.eq_ofNat_of_zero_le hb0
  have ha : a < 256 := by omega
  have hb : b < 256 := by omega
  have KA := hid (alive11_any w)
  have K1 : Hid (∀ W, _) := hid fun W => Times_any a b W ha hb
  have K2 : Hid (∀ W, _) := hid fun W => Times11_any a b ha hb W
  have K3 : Hid (∀ W, _) := hid fun W => Box_any a W ha
  have K4 : Hid (∀ W, _) := hid fun W => Box11_any a ha W
  obtain ⟨t, ht⟩ : ∃ t, t = tmN a b := ⟨_, rfl⟩
  rw [← ht] at K1 K2
  rw [boxC_is a ha] at K3
  obtain ⟨x, hx⟩ : ∃ x, x = boxN a := ⟨_, rfl⟩
  rw [← hx] at K3 K4
  have htl : t < 256 := by rw [ht]; exact tm_lt ha hb
  have hxl : x < 256 := by rw [hx, ← boxC_is a ha]; exact boxC_lt a ha
  have wa : IntKind.i64.wrap (a : Int) = (a : Int) := IntWalk.i64_in _ (by omega)
  have wb : IntKind.i64.wrap (b : Int) = (b : Int) := IntWalk.i64_in _ (by omega)
  have wt : IntKind.i64.wrap (t : Int) = (t : Int) := IntWalk.i64_in _ (by omega)
  have wx : IntKind.i64.wrap (x : Int) = (x : Int) := IntWalk.i64_in _ (by omega)
  clear ht hx htl hxl ha hb ha0 ha1 hb0 hb1
  go_enter Try.func3, Try.ntmps3
  go_wp2_with fail
  refine KA.out.mono ?_
  rintro e w1 ⟨rfl, hb1⟩
  have HB1 := hid hb1
  clear hb1
  go_wp2_with fail
  refine (K1.out _).mono ?_
  rintro e w2 ⟨rfl, rfl⟩
  go_wp2_with fail
  refine (K2.out _).mono ?_
  rintro e w3 ⟨rfl, rfl⟩
  go_wp2_with fail
  refine (K3.out _).mono ?_
  rintro e w4 ⟨rfl, k4, rfl⟩
  go_wp2_with fail
  refine (K4.out _).mono ?_
  rintro e w5 ⟨rfl, hb5⟩
  go_wp2
  go_ret
  exact ⟨by simp, HB1.out.trans ((show Below w1.heap.size w1 (w1.drewN k4) from ⟨rfl, rfl, rfl, Nat.le_refl _, fun _ _ => rfl⟩).trans hb5 |>.mono HB1.out.size)⟩
end Go.Proofs.Ytfjcedfjfadfpaa
