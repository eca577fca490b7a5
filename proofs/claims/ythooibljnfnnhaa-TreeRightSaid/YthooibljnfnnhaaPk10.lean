/-
  Texts of this claim in one file: Law16a, Law16b, Law16d.
-/
import Derived.Test.YthooibljnfnnhaaPk7
import Derived.Test.YthooibljnfnnhaaPk8
section
namespace Go.Proofs.Ythooibljnfnnhaa
open Go Go.RowKit
set_option linter.unusedVariables false
set_option linter.unusedSimpArgs false
/-- Bytes and an error; a node and an error; a leaf and an error. -/
def BysE (W : World) (xs : List UInt8) (er : Nat) (e : Ending) (w' : World) : Prop := ∃ A c, e = .returned (.tuple #[.slice A xs.length c, .int .u8 (er : Int)]) ∧ Sq w' w'.heap.size A c (bvs xs) ∧ Below W.heap.size W w'
/-- What the document says: bytes of a leaf, of a node; the node of bytes. -/
def lbX (x : Lf) : List UInt8 := if leafB x = true then leafBy x else []
def lbE (x : Lf) : Nat := if leafB x = true then 0 else 3
def nbX (k : Nat) (x : Lf) (u : Pnt) : List UInt8 := if rightB k x u = true then nodeBy k x u else []
def nbE (k : Nat) (x : Lf) (u : Pnt) : Nat := if rightB k x u = true then 0 else 3
def Late64 (u : Pnt) : Prop := ∀ v ∈ u.late, -9223372036854775808 ≤ v ∧ v ≤ 9223372036854775807
/-- Lengths that a walk can bear. -/
def LfM (x : Lf) : Prop := x.box.length ≤ 1000000 ∧ x.sign.length ≤ 1000000 ∧ x.ident.length ≤ 1000000 ∧ x.par.length ≤ 1000000 ∧ x.sig.length ≤ 1000000 ∧ x.src < 256
def PrM (u : Pnt) : Prop := u.box.length ≤ 1000000 ∧ u.hash.length ≤ 1000000 ∧ u.late.length ≤ 1000000
def Ok16 (W : World) (k : Nat) (x : Lf) (a : LA) (u : Pnt) (p : PA) : Prop := LfIn W x a ∧ PrIn W u p ∧ LfM x ∧ PrM u ∧ k < 256 ∧ Late64 u
theorem Ok16.on {W W' : World} {k : Nat} {x : Lf} {a : LA} {u : Pnt} {p : PA} (h : Ok16 W k x a u p) (hb : Below W.heap.size W W') : Ok16 W' k x a u p := ⟨h.1.on hb, h.2.1.on hb, h.2.2⟩
def NdBytes : Prop := ∀ k x a u p (W : World), Ok16 W k x a u p → Calls Try.prog 66 #[.agg (ndV k x a u p)] W (BysE W (nbX k x u) (nbE k x u))
def NdLeafBytes : Prop := ∀ x a (W : World), LfIn W x a → Lf200 x → Calls Try.prog 74 #[.agg (lfV x a)] W (BysE W (lbX x) (lbE x))
/-- A copy in memory of its own. -/
def LfOwn (W w' : World) (x : Lf) (a : LA) : Prop := OwnB w' W.heap.size (.slice a.a0 x.box.length a.c0) x.box ∧ OwnB w' W.heap.size (.slice a.a1 x.sign.length a.c1) x.sign ∧ OwnB w' W.heap.size (.slice a.a2 x.ident.length a.c2) x.ident ∧ OwnB w' W.heap.size (.slice a.a3 x.par.length a.c3) x.par ∧ OwnB w' W.heap.size (.slice a.a4 x.sig.length a.c4) x.sig
def NdCopy : Prop := ∀ k x a u p (W : World), Ok16 W k x a u p → Calls Try.prog 37 #[.agg (ndV k x a u p)] W fun e w' => ∃ b q, e = .returned (.agg (ndV k x b u q)) ∧ LfOwn W w' x b ∧ OwnB w' W.heap.size (.slice q.a0 u.box.length q.c0) u.box ∧ OwnB w' W.heap.size (.slice q.a1 u.hash.length q.c1) u.hash ∧ w'.ownsRow W.heap.size 3 1 (.slice q.a2 u.late.length q.c2) u.late.length (izs u.late) ∧ Below W.heap.size W w'
end Go.Proofs.Ythooibljnfnnhaa
end
section
namespace Go.Proofs.Ythooibljnfnnhaa
open Go Go.RowKit
set_option linter.unusedVariables false
set_option linter.unusedSimpArgs false
theorem small_le {x : Lf} {u : Pnt} (h : smallB x u = true) (hs : x.src < 256) : Lf200 x ∧ Pr200 u ∧ LfLe x ∧ PrLe u := by
  unfold smallB smallN at h
  simp only [Bool.and_eq_true, decide_eq_true_eq] at h
  obtain ⟨⟨⟨⟨⟨⟨⟨h0, h1⟩, h2⟩, h3⟩, h4⟩, h5⟩, h6⟩, h7⟩ := h
  exact ⟨⟨h0, h1, h2, h3, h4, hs⟩, ⟨h5, h6, by omega⟩, ⟨by omega, by omega, by omega, by omega, by omega, hs⟩, ⟨by omega, by omega, by omega⟩⟩
theorem lf200_m {x : Lf} (h : Lf200 x) : LfM x := ⟨by have := h.1; omega, by have := h.2.1; omega, by have := h.2.2.1; omega, by have := h.2.2.2.1; omega, by have := h.2.2.2.2.1; omega, h.2.2.2.2.2⟩
theorem pr200_m {u : Pnt} (h : Pr200 u) : PrM u := ⟨by have := h.1; omega, by have := h.2.1; omega, by have := h.2.2; omega⟩
end Go.Proofs.Ythooibljnfnnhaa
end
section
namespace Go.Proofs.Ythooibljnfnnhaa
open Go Go.RowKit
set_option linter.unusedVariables false
set_option linter.unusedSimpArgs false
theorem PrF.put {w w' : World} {B base : Nat} {y : Pnt} {b : PA} (h : PrF w B base y b) (hb : Below w.heap.size w w') (hB : B ≤ w.heap.size) (_h : B ≤ B) : PrF w' B base y b :=
  ⟨h.1.below (hb.mono hB), h.2.1.below (hb.mono hB), (h.2.2.1.below hb).more hb.size, h.2.2.2⟩
end Go.Proofs.Ythooibljnfnnhaa
end
