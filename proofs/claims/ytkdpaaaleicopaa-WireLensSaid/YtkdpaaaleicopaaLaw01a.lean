/-
  The statements of layer 1: their own functions: the chapter's example.
-/
import Derived.Test.YtkdpaaaleicopaaWire8
import Derived.Test.YtkdpaaaleicopaaSame
namespace Go.Proofs.Ytkdpaaaleicopaa
open Go.RowKit
set_option linter.unusedVariables false
set_option linter.unusedSimpArgs false

theorem lenBytes64 : lenBytes 64 = [64, 64] := by decide +kernel
theorem vecAt_ex : vecAt [2, 7, 8] = ([7, 8], [], 0) := by decide +kernel

set_option maxHeartbeats 800000 in
theorem alive_any (w : World) :
    Calls Try.prog 6 #[] w fun e w' => e = .returned (.bool true) ∧ Below w.heap.size w w' := by
  have H1 := hid (PutLen_ok none [] 0 64 w (by omega) Lie.nil (by simp))
  go_enter Try.func6, Try.ntmps6
  go_wp2_with fail
  refine H1.out.mono ?_
  rintro e w1 ⟨v1, rfl, ho1, hb1⟩
  rw [List.nil_append, lenBytes64] at ho1
  obtain ⟨A1, c1, rfl, hS1⟩ := own_sl ho1
  have hz1 := hb1.size
  have K1 := hid hb1
  clear hb1 ho1 H1
  go_wp2_with fail
  have hL : Lie (w1.alloc (.cells #[.int .u8 2, .int .u8 7, .int .u8 8] 5)) (w1.heap.size + 1) (some ⟨w1.heap.size, 0, none⟩) (bvs [2, 7, 8]) := Lie.newA w1 _ _
  have hN := NewReader_any (some ⟨w1.heap.size, 0, none⟩) [2, 7, 8] 3 _ _ hL (by simp)
  refine hN.mono ?_
  rintro e w2 ⟨g, rfl, hg, hr, hg2⟩
  have hS2 := (hS1.alloc (Nat.le_refl _) (.cells #[.int .u8 2, .int .u8 7, .int .u8 8] 5)).grown hg2 (by simp) (fun _ h => by cases h)
  have hb2 : w1.grownBy w2 none := grown_step (World.grownBy_alloc w1 _ none) (.inl rfl) hg2
  simp only [World.size_alloc] at hg
  have K2 := hid (K1.out.grown hb2 hz1 (fun _ h => by cases h))
  have hz2 := hb2.size
  clear hL hN hg2 hS1 hb2 K1
  have H3 := hid (Vec_any g [2, 7, 8] w2 hr (by simp))
  rw [vecAt_ex] at H3
  clear hr
  go_wp2_with fail
  refine H3.out.mono ?_
  rintro e w3 ⟨v3, rfl, ho3, hr3, hg3⟩
  have hS3 := hS2.grown hg3 hz2 (fun k h => by injection h with h; omega)
  have K3 := hid (K2.out.grown hg3 (by omega) (fun k h => by injection h with h; omega))
  obtain ⟨A3, c3, rfl, hS4⟩ := own_sl ho3
  obtain ⟨b, o, rfl, _, e0⟩ := hS3.lie.byte (k := 0) (by simp)
  obtain ⟨b', o', hA, _, e1⟩ := hS3.lie.byte (k := 1) (by simp)
  injection hA with hA; injection hA with hA1 hA2; subst hA1; subst hA2
  obtain ⟨b3, o3, rfl, _, e3⟩ := hS4.lie.byte (k := 1) (by simp)
  have HE := hid (End_any g [] 0 w3 hr3 (by omega))
  have f0 : w3.cell? ⟨b, o, none⟩ = some (.int .u8 64) := e0
  have f1 : w3.cell? ⟨b, o + 1, none⟩ = some (.int .u8 64) := e1
  have f3 : w3.cell? ⟨b3, o3 + 1, none⟩ = some (.int .u8 8) := e3
  clear hS2 hS3 hS4 ho3 hr3 hg3 H3 e0 e1 e3 hz1 hz2
  go_wp2_with fail
  refine HE.out.mono ?_
  rintro e w' ⟨rfl, rfl⟩
  have hE0 : endOf [] 0 = 0 := rfl
  rw [hE0]
  clear hE0
  go_wp2
  go_ret
  exact ⟨rfl, K3.out⟩
end Go.Proofs.Ytkdpaaaleicopaa
