/-
  No cell of these rows narrows 'for every input' (looked for: loops, veiled, ifaces, maps, wideKeys, modest, calm, conditions, laid).
  DERIVED. THE GIVEN ROWS OF THIS SEAT. 6 by the template 'for every input the law returns true; each argument reads behind the call as it read before'; 0 by the template 'total and deterministic' (their statements: YtmipocpajglbaaaTotals.lean).
  GIVEN WITH THE SEED: the statements are not yours to turn. If you find one false, say at which input.
  Laid BY PROGRAM, IN A SANDBOX (cutbox-rows.mjs): the forced cells as the released guide's own fill.sh prints them over the translation 9051132af0387aa1… (all of the seat's roots in one cut). By AI agents, Wed Nov 11 2026. No macro, syntax, notation, axiom, sorry.
-/
import Derived.Test.YtmipocpajglbaaaChecked
import GoSem.Claim
import GoSem.ClaimJoined
import GoSem.ClaimMapViews
import Derived.JoinedTies
import Derived.KernelRfl
namespace Go.Proofs.Ytmipocpajglbaaa
/- THE CELL 'sum', in the pinned program and in every row, IS THE sha256 OF THE DUMP (.gsa) THAT YtmipocpajglbaaaProg.lean LOADS. Nothing in Lean hashes anything: it is a label: what it is worth is what the hold of that sum in a sandbox is worth. -/
noncomputable def Try.pinned : Pinned := { name := "ytmipocpajglbaaa", sum := "9051132af0387aa1d4b390bfc688df3691517d4dcd016bc75ec50fc488519d3d", checked := Try.checked }
namespace Rows
def none {H : Type} : Left H := { results := [], args := [] }

/-- 'ratlinelaw15.PlanPlaces': WHATEVER THE INPUT: true; the input reads as it did. -/
def planPlacesSpec : ChangeSpec := { name := "planPlaces", fn := fun _ => fun
  | [d1, d2, d3] => { results := [.lit (.bool true)], args := [d1, d2, d3] }
  | _ => none }
def planPlacesRow : OpenClaim := { program := "ytmipocpajglbaaa", sum := "9051132af0387aa1d4b390bfc688df3691517d4dcd016bc75ec50fc488519d3d", func := "ratline/ratlinelaw15.PlanPlaces", spec := "planPlaces", apart := false }
def PlanPlacesSaid : Prop := planPlacesRow.holds Try.pinned (OpenSpec.ofChange planPlacesSpec)

/-- ITS FALSE NEIGHBOUR: 'it returns false'. Refute it at one input. -/
def planPlacesWrong : ChangeSpec := { name := "planPlaces", fn := fun _ => fun
  | [d1, d2, d3] => { results := [.lit (.bool false)], args := [d1, d2, d3] }
  | _ => none }
def PlanPlacesWrongFalsely : Prop := planPlacesRow.holds Try.pinned (OpenSpec.ofChange planPlacesWrong)

/-- 'ratlinelaw15.PlanAt': WHATEVER THE INPUT: true; the input reads as it did. -/
def planAtSpec : ChangeSpec := { name := "planAt", fn := fun _ => fun
  | [d1, d2, d3, d4] => { results := [.lit (.bool true)], args := [d1, d2, d3, d4] }
  | _ => none }
def planAtRow : OpenClaim := { program := "ytmipocpajglbaaa", sum := "9051132af0387aa1d4b390bfc688df3691517d4dcd016bc75ec50fc488519d3d", func := "ratline/ratlinelaw15.PlanAt", spec := "planAt", apart := false }
def PlanAtSaid : Prop := planAtRow.holds Try.pinned (OpenSpec.ofChange planAtSpec)

/-- ITS FALSE NEIGHBOUR: 'it returns false'. Refute it at one input. -/
def planAtWrong : ChangeSpec := { name := "planAt", fn := fun _ => fun
  | [d1, d2, d3, d4] => { results := [.lit (.bool false)], args := [d1, d2, d3, d4] }
  | _ => none }
def PlanAtWrongFalsely : Prop := planAtRow.holds Try.pinned (OpenSpec.ofChange planAtWrong)

/-- 'ratlinelaw15.PlanGaps': WHATEVER THE INPUT: true; the input reads as it did. -/
def planGapsSpec : ChangeSpec := { name := "planGaps", fn := fun _ => fun
  | [d1, d2, d3] => { results := [.lit (.bool true)], args := [d1, d2, d3] }
  | _ => none }
def planGapsRow : OpenClaim := { program := "ytmipocpajglbaaa", sum := "9051132af0387aa1d4b390bfc688df3691517d4dcd016bc75ec50fc488519d3d", func := "ratline/ratlinelaw15.PlanGaps", spec := "planGaps", apart := false }
def PlanGapsSaid : Prop := planGapsRow.holds Try.pinned (OpenSpec.ofChange planGapsSpec)

/-- ITS FALSE NEIGHBOUR: 'it returns false'. Refute it at one input. -/
def planGapsWrong : ChangeSpec := { name := "planGaps", fn := fun _ => fun
  | [d1, d2, d3] => { results := [.lit (.bool false)], args := [d1, d2, d3] }
  | _ => none }
def PlanGapsWrongFalsely : Prop := planGapsRow.holds Try.pinned (OpenSpec.ofChange planGapsWrong)

/-- 'ratlinelaw15.PlanTurns': WHATEVER THE INPUT: true; the input reads as it did. -/
def planTurnsSpec : ChangeSpec := { name := "planTurns", fn := fun _ => fun
  | [d1, d2, d3] => { results := [.lit (.bool true)], args := [d1, d2, d3] }
  | _ => none }
def planTurnsRow : OpenClaim := { program := "ytmipocpajglbaaa", sum := "9051132af0387aa1d4b390bfc688df3691517d4dcd016bc75ec50fc488519d3d", func := "ratline/ratlinelaw15.PlanTurns", spec := "planTurns", apart := false }
def PlanTurnsSaid : Prop := planTurnsRow.holds Try.pinned (OpenSpec.ofChange planTurnsSpec)

/-- ITS FALSE NEIGHBOUR: 'it returns false'. Refute it at one input. -/
def planTurnsWrong : ChangeSpec := { name := "planTurns", fn := fun _ => fun
  | [d1, d2, d3] => { results := [.lit (.bool false)], args := [d1, d2, d3] }
  | _ => none }
def PlanTurnsWrongFalsely : Prop := planTurnsRow.holds Try.pinned (OpenSpec.ofChange planTurnsWrong)

/-- 'ratlinelaw15.PlanBack': WHATEVER THE INPUT: true; the input reads as it did. -/
def planBackSpec : ChangeSpec := { name := "planBack", fn := fun _ => fun
  | [d1, d2, d3] => { results := [.lit (.bool true)], args := [d1, d2, d3] }
  | _ => none }
def planBackRow : OpenClaim := { program := "ytmipocpajglbaaa", sum := "9051132af0387aa1d4b390bfc688df3691517d4dcd016bc75ec50fc488519d3d", func := "ratline/ratlinelaw15.PlanBack", spec := "planBack", apart := false }
def PlanBackSaid : Prop := planBackRow.holds Try.pinned (OpenSpec.ofChange planBackSpec)

/-- ITS FALSE NEIGHBOUR: 'it returns false'. Refute it at one input. -/
def planBackWrong : ChangeSpec := { name := "planBack", fn := fun _ => fun
  | [d1, d2, d3] => { results := [.lit (.bool false)], args := [d1, d2, d3] }
  | _ => none }
def PlanBackWrongFalsely : Prop := planBackRow.holds Try.pinned (OpenSpec.ofChange planBackWrong)

/-- 'ratlinelaw15.PlanHalf': WHATEVER THE INPUT: true; the input reads as it did. -/
def planHalfSpec : ChangeSpec := { name := "planHalf", fn := fun _ => fun
  | [d1, d2, d3] => { results := [.lit (.bool true)], args := [d1, d2, d3] }
  | _ => none }
def planHalfRow : OpenClaim := { program := "ytmipocpajglbaaa", sum := "9051132af0387aa1d4b390bfc688df3691517d4dcd016bc75ec50fc488519d3d", func := "ratline/ratlinelaw15.PlanHalf", spec := "planHalf", apart := false }
def PlanHalfSaid : Prop := planHalfRow.holds Try.pinned (OpenSpec.ofChange planHalfSpec)

/-- ITS FALSE NEIGHBOUR: 'it returns false'. Refute it at one input. -/
def planHalfWrong : ChangeSpec := { name := "planHalf", fn := fun _ => fun
  | [d1, d2, d3] => { results := [.lit (.bool false)], args := [d1, d2, d3] }
  | _ => none }
def PlanHalfWrongFalsely : Prop := planHalfRow.holds Try.pinned (OpenSpec.ofChange planHalfWrong)

/- THE SECOND FORM. 'bulk': how many values and letters a reading holds, each counted each time it is reached (what is shared counts as often as it is met; a slice's spare places count too). A statement '..UptoSaid' is the law's where the arguments, and the package variables that the reading takes, are together of bulk at most 1048576: NARROWER than '..Said'. Prove '..Said' where nothing that the law and all that it calls make is longer than what came in: it says more and counts as full. Else prove '..UptoSaid'. A law counts once. -/
mutual
def uptoBulk {H : Type} : DataW H → Nat
  | .lit (.string bytes) => bytes.length + 1
  | .lit _ => 1
  | .nil => 1
  | .ptr d => uptoBulk d + 1
  | .slice elems spare => uptoBulkAll elems + uptoBulkAll spare + 1
  | .agg parts => uptoBulkAll parts + 1
  | .iface _ d => uptoBulk d + 1
  | .map entries => uptoBulkEntries entries + 1
  | .held _ => 1
def uptoBulkAll {H : Type} : List (DataW H) → Nat
  | [] => 0
  | d :: r => uptoBulk d + uptoBulkAll r
def uptoBulkEntries {H : Type} : List (Lit × DataW H) → Nat
  | [] => 0
  | x :: r => uptoBulkEntry x + uptoBulkEntries r
def uptoBulkEntry {H : Type} : Lit × DataW H → Nat
  | (.string bytes, d) => bytes.length + uptoBulk d + 1
  | (_, d) => uptoBulk d + 1
 end
def uptoSmall : (H : Type) → List (DataW H) → Bool := fun _ ds => decide (uptoBulkAll ds ≤ 1048576)
def OpenSpec.upto (s : _root_.Go.ChangeSpec) : _root_.Go.OpenSpec := { _root_.Go.OpenSpec.ofChange s with cond := some uptoSmall }

/-- 'ratlinelaw15.PlanPlaces', WHERE WHAT IT READS IS OF BULK AT MOST 1048576: true; the input reads as it did. -/
def planPlacesUptoRow : OpenClaim := { program := "ytmipocpajglbaaa", sum := "9051132af0387aa1d4b390bfc688df3691517d4dcd016bc75ec50fc488519d3d", func := "ratline/ratlinelaw15.PlanPlaces", spec := "planPlaces", apart := false, narrowed := true }
def PlanPlacesUptoSaid : Prop := planPlacesUptoRow.holds Try.pinned (OpenSpec.upto planPlacesSpec)

/-- 'ratlinelaw15.PlanAt', WHERE WHAT IT READS IS OF BULK AT MOST 1048576: true; the input reads as it did. -/
def planAtUptoRow : OpenClaim := { program := "ytmipocpajglbaaa", sum := "9051132af0387aa1d4b390bfc688df3691517d4dcd016bc75ec50fc488519d3d", func := "ratline/ratlinelaw15.PlanAt", spec := "planAt", apart := false, narrowed := true }
def PlanAtUptoSaid : Prop := planAtUptoRow.holds Try.pinned (OpenSpec.upto planAtSpec)

/-- 'ratlinelaw15.PlanGaps', WHERE WHAT IT READS IS OF BULK AT MOST 1048576: true; the input reads as it did. -/
def planGapsUptoRow : OpenClaim := { program := "ytmipocpajglbaaa", sum := "9051132af0387aa1d4b390bfc688df3691517d4dcd016bc75ec50fc488519d3d", func := "ratline/ratlinelaw15.PlanGaps", spec := "planGaps", apart := false, narrowed := true }
def PlanGapsUptoSaid : Prop := planGapsUptoRow.holds Try.pinned (OpenSpec.upto planGapsSpec)

/-- 'ratlinelaw15.PlanTurns', WHERE WHAT IT READS IS OF BULK AT MOST 1048576: true; the input reads as it did. -/
def planTurnsUptoRow : OpenClaim := { program := "ytmipocpajglbaaa", sum := "9051132af0387aa1d4b390bfc688df3691517d4dcd016bc75ec50fc488519d3d", func := "ratline/ratlinelaw15.PlanTurns", spec := "planTurns", apart := false, narrowed := true }
def PlanTurnsUptoSaid : Prop := planTurnsUptoRow.holds Try.pinned (OpenSpec.upto planTurnsSpec)

/-- 'ratlinelaw15.PlanBack', WHERE WHAT IT READS IS OF BULK AT MOST 1048576: true; the input reads as it did. -/
def planBackUptoRow : OpenClaim := { program := "ytmipocpajglbaaa", sum := "9051132af0387aa1d4b390bfc688df3691517d4dcd016bc75ec50fc488519d3d", func := "ratline/ratlinelaw15.PlanBack", spec := "planBack", apart := false, narrowed := true }
def PlanBackUptoSaid : Prop := planBackUptoRow.holds Try.pinned (OpenSpec.upto planBackSpec)

/-- 'ratlinelaw15.PlanHalf', WHERE WHAT IT READS IS OF BULK AT MOST 1048576: true; the input reads as it did. -/
def planHalfUptoRow : OpenClaim := { program := "ytmipocpajglbaaa", sum := "9051132af0387aa1d4b390bfc688df3691517d4dcd016bc75ec50fc488519d3d", func := "ratline/ratlinelaw15.PlanHalf", spec := "planHalf", apart := false, narrowed := true }
def PlanHalfUptoSaid : Prop := planHalfUptoRow.holds Try.pinned (OpenSpec.upto planHalfSpec)

end Rows
end Go.Proofs.Ytmipocpajglbaaa
