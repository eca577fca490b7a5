/-
  The statements of layer 5: what each begins with.
-/
import Derived.Test.YtpdkpadpdkagoaaDoorKdf2
namespace Go.Proofs.YtpdkpadpdkagoaaDoor
open Go.RowKit
set_option linter.unusedVariables false
set_option linter.unusedSimpArgs false

set_option maxRecDepth 100000 in
set_option maxHeartbeats 800000 in
theorem alive5_any (w : World) (hG : Glob w) :
    Calls Tryd.prog 6 #[] w fun e w' => e = .returned (.bool true) ∧ Below w.heap.size w w' := by
  have HG := hid hG
  have kc : ∀ (W : World) (C : Array Value) (n c k : Nat), W.heap.size = k → (convert 22 22 (.slice (some ⟨k, 0, none⟩) n c)).run Tryd.prog (W.alloc (.cells C 5)) = .ok (.slice (some ⟨k, 0, none⟩) n c) (W.alloc (.cells C 5 (C.size, C.size + 1))) := fun W C n c k h => by
    subst h; exact Go.Lib.run_convert_bytes_const (P := Tryd.prog) W 22 5 C n c Tryd.underlying22 Tryd.underlying5
  clear hG
  have hS : ∀ W : World, Below w.heap.size w W → Sq (W.alloc (.cells #[.int .u8 115] 5 (1, 2))) (W.alloc (.cells #[.int .u8 115] 5 (1, 2))).heap.size (some ⟨W.heap.size, 0, none⟩) 1 (bvs [115]) ∧ Below w.heap.size w (W.alloc (.cells #[.int .u8 115] 5 (1, 2))) := fun W hW =>
    ⟨(lie_marked W #[.int .u8 115] 1 2).sq (by simp) (by omega), hW.alloc hW.size _⟩
  obtain ⟨h1, h2⟩ := hS w (Below.refl _ _)
  have HE := Expand_ok (some ⟨w.heap.size, 0, none⟩) [115] 1 none [] 0 0 (w.alloc (.cells #[.int .u8 115] 5 (1, 2))) h1 Sq.nil (HG.out.below h2 (Nat.le_refl _)) (by omega) (by simp) (by simp)
  simp only [List.length_nil, List.length_cons] at HE
  have HE := hid HE; have HS := hid hS; have HB := hid h2
  clear hS h1 h2
  go_enter Tryd.func6, Tryd.ntmps6
  go_wp2_with fail
  refine HE.out.mono ?_
  rintro e w1 ⟨v1, rfl, ho1, hb1⟩
  obtain ⟨A1, c1, rfl, _⟩ := own_sl ho1
  have hB1 : Below w.heap.size w w1 := HB.out.trans (hb1.mono HB.out.size)
  rw [kdfB_length]
  have HB1 := hid hB1
  clear ho1 hb1 hB1 HE HB
  go_wp2_with fail
  refine (Expand_bad _ _ (-1) w1 (by decide)).mono ?_
  rintro e w2 ⟨rfl, rfl⟩
  obtain ⟨h1, h2⟩ := HS.out w1 HB1.out
  have hx : ∀ W : World, W = w1.alloc (.cells #[.int .u8 115] 5 (1, 2)) → Calls Tryd.prog 14 #[.slice (some ⟨w1.heap.size, 0, none⟩) 1 1, .string ⟨#[120]⟩] W fun e w' => ∃ v, e = .returned v ∧ OwnB w' W.heap.size v (kdfB [115] (labB (sby ⟨#[120]⟩) [] 32) 32) ∧ Below W.heap.size W w' := fun W hW => by
    subst hW
    exact Secret_ok (some ⟨w1.heap.size, 0, none⟩) [115] 1 ⟨#[120]⟩ _ h1 (HG.out.below h2 (Nat.le_refl _)) (by simp) (by decide)
  have HX := hid hx; have HB2 := hid h2
  clear hx h1 h2 HS
  go_wp2_with fail
  refine (HX.out _ rfl).mono ?_
  rintro e w3 ⟨v3, rfl, ho3, hb3⟩
  obtain ⟨A3, c3, rfl, _⟩ := own_sl ho3
  rw [kdfB_length]
  have HBE := hid (HB2.out.trans (hb3.mono HB2.out.size))
  clear ho3 hb3 HX
  go_wp2
  go_ret
  exact ⟨rfl, HBE.out⟩
end Go.Proofs.YtpdkpadpdkagoaaDoor
