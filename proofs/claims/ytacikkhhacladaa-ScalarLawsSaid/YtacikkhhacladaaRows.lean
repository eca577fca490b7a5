/-
  No cell of these rows narrows 'for every input' (looked for: loops, veiled, ifaces, maps, wideKeys, modest, calm, conditions, laid).
  DERIVED. THE GIVEN ROWS OF THIS SEAT. 3 by the template 'for every input the law returns true; each argument reads behind the call as it read before'; 0 by the template 'total and deterministic' (their statements: YtacikkhhacladaaTotals.lean).
  GIVEN WITH THE SEED: the statements are not yours to turn. If you find one false, say at which input.
  Laid BY PROGRAM, IN A SANDBOX (cutbox-rows.mjs): the forced cells as the released guide's own fill.sh prints them over the translation 37c7b973c9da26d9… (all of the seat's roots in one cut). By AI agents, Wed Nov 11 2026. No macro, syntax, notation, axiom, sorry.
-/
import Derived.Test.YtacikkhhacladaaChecked
import GoSem.Claim
import GoSem.ClaimJoined
import GoSem.ClaimMapViews
import Derived.JoinedTies
import Derived.KernelRfl
namespace Go.Proofs.Ytacikkhhacladaa
/- THE CELL 'sum', in the pinned program and in every row, IS THE sha256 OF THE DUMP (.gsa) THAT YtacikkhhacladaaProg.lean LOADS. Nothing in Lean hashes anything: it is a label: what it is worth is what the hold of that sum in a sandbox is worth. -/
noncomputable def Try.pinned : Pinned := { name := "ytacikkhhacladaa", sum := "37c7b973c9da26d9638e0fff2fecacbe27de6357758f96b640859d757a755b5d", checked := Try.checked }
namespace Rows
def none {H : Type} : Left H := { results := [], args := [] }

/-- 'ratlinelaw08.ScalarTwo': WHATEVER THE INPUT: true; the input reads as it did. -/
def scalarTwoSpec : ChangeSpec := { name := "scalarTwo", fn := fun _ => fun
  | [d1, d2, d3] => { results := [.lit (.bool true)], args := [d1, d2, d3] }
  | _ => none }
def scalarTwoRow : OpenClaim := { program := "ytacikkhhacladaa", sum := "37c7b973c9da26d9638e0fff2fecacbe27de6357758f96b640859d757a755b5d", func := "ratline/ratlinelaw08.ScalarTwo", spec := "scalarTwo", inPlace := ["math/bits.Add64", "math/bits.Sub64"], apart := false }
def ScalarTwoSaid : Prop := scalarTwoRow.holds Try.pinned (OpenSpec.ofChange scalarTwoSpec)

/-- ITS FALSE NEIGHBOUR: 'it returns false'. Refute it at one input. -/
def scalarTwoWrong : ChangeSpec := { name := "scalarTwo", fn := fun _ => fun
  | [d1, d2, d3] => { results := [.lit (.bool false)], args := [d1, d2, d3] }
  | _ => none }
def ScalarTwoWrongFalsely : Prop := scalarTwoRow.holds Try.pinned (OpenSpec.ofChange scalarTwoWrong)

/-- 'ratlinelaw08.ScalarExact': WHATEVER THE INPUT: true; the input reads as it did. -/
def scalarExactSpec : ChangeSpec := { name := "scalarExact", fn := fun _ => fun
  | [d] => { results := [.lit (.bool true)], args := [d] }
  | _ => none }
def scalarExactRow : OpenClaim := { program := "ytacikkhhacladaa", sum := "37c7b973c9da26d9638e0fff2fecacbe27de6357758f96b640859d757a755b5d", func := "ratline/ratlinelaw08.ScalarExact", spec := "scalarExact", inPlace := ["math/bits.Add64", "math/bits.Sub64"], apart := false }
def ScalarExactSaid : Prop := scalarExactRow.holds Try.pinned (OpenSpec.ofChange scalarExactSpec)

/-- ITS FALSE NEIGHBOUR: 'it returns false'. Refute it at one input. -/
def scalarExactWrong : ChangeSpec := { name := "scalarExact", fn := fun _ => fun
  | [d] => { results := [.lit (.bool false)], args := [d] }
  | _ => none }
def ScalarExactWrongFalsely : Prop := scalarExactRow.holds Try.pinned (OpenSpec.ofChange scalarExactWrong)

/-- 'ratlinelaw08.ScalarLaws': WHATEVER THE INPUT: true; the input reads as it did. -/
def scalarLawsSpec : ChangeSpec := { name := "scalarLaws", fn := fun _ => fun
  | [d1, d2, d3] => { results := [.lit (.bool true)], args := [d1, d2, d3] }
  | _ => none }
def scalarLawsRow : OpenClaim := { program := "ytacikkhhacladaa", sum := "37c7b973c9da26d9638e0fff2fecacbe27de6357758f96b640859d757a755b5d", func := "ratline/ratlinelaw08.ScalarLaws", spec := "scalarLaws", inPlace := ["math/bits.Add64", "math/bits.Sub64"], apart := false }
def ScalarLawsSaid : Prop := scalarLawsRow.holds Try.pinned (OpenSpec.ofChange scalarLawsSpec)

/-- ITS FALSE NEIGHBOUR: 'it returns false'. Refute it at one input. -/
def scalarLawsWrong : ChangeSpec := { name := "scalarLaws", fn := fun _ => fun
  | [d1, d2, d3] => { results := [.lit (.bool false)], args := [d1, d2, d3] }
  | _ => none }
def ScalarLawsWrongFalsely : Prop := scalarLawsRow.holds Try.pinned (OpenSpec.ofChange scalarLawsWrong)

/- THE SECOND FORM. 'bulk': how many values and letters a reading holds, each counted each time it is reached (what is shared counts as often as it is met; a slice's spare places count too). A statement '..UptoSaid' is the law's where the arguments, and the package variables that the reading takes, are together of bulk at most 1048576: NARROWER than '..Said'. Prove '..Said' where nothing that the law and all that it calls make is longer than what came in: it says more and counts as full. Else prove '..UptoSaid'. A law counts once. -/
mutual
def uptoBulk {H : Type} : DataW H → Nat
  | .lit (.string bytes) => bytes.length + 1
  | .lit _ => 1
  | .nil => 1
  | .ptr d => uptoBulk d + 1
  | .slice elems spare => uptoBulkAll elems + uptoBulkAll spare + 1
  | .agg parts => uptoBulkAll parts + 1
  | .iface _ d => uptoBulk d + 1
  | .map entries => uptoBulkEntries entries + 1
  | .held _ => 1
def uptoBulkAll {H : Type} : List (DataW H) → Nat
  | [] => 0
  | d :: r => uptoBulk d + uptoBulkAll r
def uptoBulkEntries {H : Type} : List (Lit × DataW H) → Nat
  | [] => 0
  | x :: r => uptoBulkEntry x + uptoBulkEntries r
def uptoBulkEntry {H : Type} : Lit × DataW H → Nat
  | (.string bytes, d) => bytes.length + uptoBulk d + 1
  | (_, d) => uptoBulk d + 1
 end
def uptoSmall : (H : Type) → List (DataW H) → Bool := fun _ ds => decide (uptoBulkAll ds ≤ 1048576)
def OpenSpec.upto (s : _root_.Go.ChangeSpec) : _root_.Go.OpenSpec := { _root_.Go.OpenSpec.ofChange s with cond := some uptoSmall }

/-- 'ratlinelaw08.ScalarTwo', WHERE WHAT IT READS IS OF BULK AT MOST 1048576: true; the input reads as it did. -/
def scalarTwoUptoRow : OpenClaim := { program := "ytacikkhhacladaa", sum := "37c7b973c9da26d9638e0fff2fecacbe27de6357758f96b640859d757a755b5d", func := "ratline/ratlinelaw08.ScalarTwo", spec := "scalarTwo", inPlace := ["math/bits.Add64", "math/bits.Sub64"], apart := false, narrowed := true }
def ScalarTwoUptoSaid : Prop := scalarTwoUptoRow.holds Try.pinned (OpenSpec.upto scalarTwoSpec)

/-- 'ratlinelaw08.ScalarExact', WHERE WHAT IT READS IS OF BULK AT MOST 1048576: true; the input reads as it did. -/
def scalarExactUptoRow : OpenClaim := { program := "ytacikkhhacladaa", sum := "37c7b973c9da26d9638e0fff2fecacbe27de6357758f96b640859d757a755b5d", func := "ratline/ratlinelaw08.ScalarExact", spec := "scalarExact", inPlace := ["math/bits.Add64", "math/bits.Sub64"], apart := false, narrowed := true }
def ScalarExactUptoSaid : Prop := scalarExactUptoRow.holds Try.pinned (OpenSpec.upto scalarExactSpec)

/-- 'ratlinelaw08.ScalarLaws', WHERE WHAT IT READS IS OF BULK AT MOST 1048576: true; the input reads as it did. -/
def scalarLawsUptoRow : OpenClaim := { program := "ytacikkhhacladaa", sum := "37c7b973c9da26d9638e0fff2fecacbe27de6357758f96b640859d757a755b5d", func := "ratline/ratlinelaw08.ScalarLaws", spec := "scalarLaws", inPlace := ["math/bits.Add64", "math/bits.Sub64"], apart := false, narrowed := true }
def ScalarLawsUptoSaid : Prop := scalarLawsUptoRow.holds Try.pinned (OpenSpec.upto scalarLawsSpec)

end Rows
end Go.Proofs.Ytacikkhhacladaa
