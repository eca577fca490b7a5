/-
  Texts of this claim in one file: Law12e.
-/
import Derived.Test.YtojlmlmjmlbjmaaPk15
import Derived.Test.YtojlmlmjmlbjmaaPk18
section
namespace Go.Proofs.Ytojlmlmjmlbjmaa
open Go Go.RowKit
set_option linter.unusedVariables false
theorem times12_law (A : Option Addr) (xs : List UInt8) (c : Nat) (A' : Option Addr) (ys : List UInt8) (c' : Nat) (A2 : Option Addr) (zs : List UInt8) (c2 : Nat) (w : World) (h0 : Sq w w.heap.size A c (bvs xs)) (h1 : Sq w w.heap.size A' c' (bvs ys)) (h2 : Sq w w.heap.size A2 c2 (bvs zs)) :
    Calls Try.prog 5 #[.slice A xs.length c, .slice A' ys.length c', .slice A2 zs.length c2] w fun e w' => e = .returned (.bool true) ∧ Below w.heap.size w w' :=
  times12_any seal12_ok times12_ok A A' A2 xs ys zs _ _ _ c c' c2 w h0 h1 h2 rfl rfl rfl
theorem opens12_law (A : Option Addr) (xs : List UInt8) (c : Nat) (A' : Option Addr) (ys : List UInt8) (c' : Nat) (A2 : Option Addr) (zs : List UInt8) (c2 : Nat) (A3 : Option Addr) (us : List UInt8) (c3 : Nat) (w : World) (h0 : Sq w w.heap.size A c (bvs xs)) (h1 : Sq w w.heap.size A' c' (bvs ys)) (h2 : Sq w w.heap.size A2 c2 (bvs zs)) (h3 : Sq w w.heap.size A3 c3 (bvs us)) :
    Calls Try.prog 4 #[.slice A xs.length c, .slice A' ys.length c', .slice A2 zs.length c2, .slice A3 us.length c3] w fun e w' => e = .returned (.bool true) ∧ Below w.heap.size w w' :=
  opens12_any seal12_ok open12_ok A A' A2 A3 xs ys zs us _ _ _ _ c c' c2 c3 w h0 h1 h2 h3 rfl rfl rfl rfl
theorem seals12_law (A : Option Addr) (xs : List UInt8) (c : Nat) (A' : Option Addr) (ys : List UInt8) (c' : Nat) (A2 : Option Addr) (zs : List UInt8) (c2 : Nat) (A3 : Option Addr) (us : List UInt8) (c3 : Nat) (w : World) (h0 : Sq w w.heap.size A c (bvs xs)) (h1 : Sq w w.heap.size A' c' (bvs ys)) (h2 : Sq w w.heap.size A2 c2 (bvs zs)) (h3 : Sq w w.heap.size A3 c3 (bvs us)) :
    Calls Try.prog 3 #[.slice A xs.length c, .slice A' ys.length c', .slice A2 zs.length c2, .slice A3 us.length c3] w fun e w' => e = .returned (.bool true) ∧ Below w.heap.size w w' := by
  by_cases h : xs.length = 16 ∧ ys.length = 12
  · obtain ⟨e1, e2⟩ := h
    have k := seals12_good seal12_ok open12_ok A A' A2 A3 xs ys zs us _ _ c c' c2 c3 w h0 h1 h2 h3 e1 e2 rfl rfl
    rw [e1, e2]
    exact k
  · exact seals12_bad A A' A2 A3 xs ys zs us _ _ _ _ c c' c2 c3 w h0 h1 h2 h3 rfl rfl rfl rfl h
theorem parts12_law (A : Option Addr) (xs : List UInt8) (c : Nat) (A' : Option Addr) (ys : List UInt8) (c' : Nat) (A2 : Option Addr) (zs : List UInt8) (c2 : Nat) (A3 : Option Addr) (us : List UInt8) (c3 : Nat) (t : Int) (w : World) (h0 : Sq w w.heap.size A c (bvs xs)) (h1 : Sq w w.heap.size A' c' (bvs ys)) (h2 : Sq w w.heap.size A2 c2 (bvs zs)) (h3 : Sq w w.heap.size A3 c3 (bvs us)) (ht0 : 0 ≤ t) (ht1 : t ≤ 255) :
    Calls Try.prog 6 #[.slice A xs.length c, .slice A' ys.length c', .slice A2 zs.length c2, .slice A3 us.length c3, .int .u8 t] w fun e w' => e = .returned (.bool true) ∧ Below w.heap.size w w' :=
  parts12_any A A' A2 A3 xs ys zs us _ _ _ _ c c' c2 c3 t w h0 h1 h2 h3 rfl rfl rfl rfl ht0 ht1
end Go.Proofs.Ytojlmlmjmlbjmaa
end
