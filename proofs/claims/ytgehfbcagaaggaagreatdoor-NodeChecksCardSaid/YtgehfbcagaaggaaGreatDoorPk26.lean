/-
  Texts of this claim in one file: Law16w.
-/
import Derived.Test.YtgehfbcagaaggaaGreatDoorPk21
import Derived.Test.YtgehfbcagaaggaaGreatDoorPk22
import Derived.Test.YtgehfbcagaaggaaGreatDoorPk24
import Derived.Test.YtgehfbcagaaggaaGreatDoorPk25
section
namespace Go.Proofs.YtgehfbcagaaggaaGreatDoor
open Go Go.RowKit
set_option linter.unusedVariables false
set_option linter.unusedSimpArgs false
theorem sgn_public : SgnPublic := fun A xs c W hG h1 h2 => SgPublic A xs c W hG h1 h2
theorem sgn_label : SgnLabel := fun A xs c A' ys c' W hG h1 h2 h3 h4 => SgLabel A xs c labS A' ys c' W hG h1 h2 h3 (by decide) h4
theorem sgn_check : SgnCheck := fun A xs c A' ys c' A'' zs c'' W hG h1 h2 h3 h4 h5 h6 => SgCheck A xs c labS A' ys c' A'' zs c'' W hG h1 h2 h3 h4 (by decide) h5 h6
theorem alive16_all : Alive16 := alive16_core (fun W => by
    have h := node_bytes 0 lf0 la0 pr0 pa0 W (ok16_none W)
    rw [ex_b.1, ex_b.2] at h
    exact h) (fun A c W h => of_three A c W h)
theorem nodeSigns_law (x : Lf) (a : LA) (A2 : Option Addr) (seed : List UInt8) (c2 : Nat) (A3 : Option Addr) (gs : List UInt8) (c3 : Nat) (z : Int) (w : World) (hx : LfS w x a) (hs : x.src < 256) (q2 : Sq w w.heap.size A2 c2 (bvs seed)) (q3 : Sq w w.heap.size A3 c3 (bvs gs)) (h1 : -9223372036854775808 ≤ z) (h2 : z ≤ 9223372036854775807) (hG : GlobL w) :
    Calls Tryz.prog 3 #[.agg (lfV x a), .slice A2 seed.length c2, .slice A3 gs.length c3, .int .i64 z] w fun e w' => e = .returned (.bool true) ∧ Below w.heap.size w w' :=
  nodeSigns_any sgn_public sgn_label (sign_leaf sgn_label) (check_leaf sgn_check) alive16_all x a A2 seed c2 A3 gs c3 z w hG hx hs q2 q3 ⟨h1, h2⟩
theorem nodeChecks_law (x : Lf) (a : LA) (A : Option Addr) (gs : List UInt8) (c : Nat) (z : Int) (w : World) (hx : LfS w x a) (hs : x.src < 256) (q : Sq w w.heap.size A c (bvs gs)) (h1 : -9223372036854775808 ≤ z) (h2 : z ≤ 9223372036854775807) (hG : GlobL w) :
    Calls Tryz.prog 4 #[.agg (lfV x a), .slice A gs.length c, .int .i64 z] w fun e w' => e = .returned (.bool true) ∧ Below w.heap.size w w' :=
  nodeChecks_any (check_leaf sgn_check) sgn_check alive16_all x a A gs c z w hG hx hs q ⟨h1, h2⟩
theorem nodeMade_law (A0 : Option Addr) (box : List UInt8) (c0 : Nat) (A1 : Option Addr) (ident : List UInt8) (c1 : Nat) (A2 : Option Addr) (seed : List UInt8) (c2 : Nat) (A3 : Option Addr) (gs : List UInt8) (c3 : Nat) (s z : Int) (w : World) (q0 : Sq w w.heap.size A0 c0 (bvs box)) (q1 : Sq w w.heap.size A1 c1 (bvs ident)) (q2 : Sq w w.heap.size A2 c2 (bvs seed)) (q3 : Sq w w.heap.size A3 c3 (bvs gs)) (s1 : 0 ≤ s) (s2 : s ≤ 255) (h1 : 0 ≤ z) (h2 : z ≤ 65535) (hG : GlobL w) :
    Calls Tryz.prog 5 #[.slice A0 box.length c0, .slice A1 ident.length c1, .slice A2 seed.length c2, .slice A3 gs.length c3, .int .u8 s, .int .u16 z] w fun e w' => e = .returned (.bool true) ∧ Below w.heap.size w w' :=
  nodeMade_any sgn_public (sign_leaf sgn_label) (check_leaf sgn_check) alive16_all A0 box c0 A1 ident c1 A2 seed c2 A3 gs c3 s z w hG q0 q1 q2 q3 ⟨s1, s2⟩ ⟨h1, h2⟩
end Go.Proofs.YtgehfbcagaaggaaGreatDoor
end
