/-
  No cell of these rows narrows 'for every input' (looked for: loops, veiled, ifaces, maps, wideKeys, modest, calm, conditions, laid).
  DERIVED. THE GIVEN ROWS OF THIS SEAT. 6 by the template 'for every input the law returns true; each argument reads behind the call as it read before'; 0 by the template 'total and deterministic' (their statements: YtaoddlcoedodcaaTotals.lean).
  GIVEN WITH THE SEED: the statements are not yours to turn. If you find one false, say at which input.
  Laid BY PROGRAM, IN A SANDBOX (cutbox-rows.mjs): the forced cells as the released guide's own fill.sh prints them over the translation f4aaaa2c39d52cee… (all of the seat's roots in one cut). By AI agents, Wed Nov 11 2026. No macro, syntax, notation, axiom, sorry.
-/
import Derived.Test.YtaoddlcoedodcaaChecked
import GoSem.Claim
import GoSem.ClaimJoined
import GoSem.ClaimMapViews
import Derived.JoinedTies
import Derived.KernelRfl
namespace Go.Proofs.Ytaoddlcoedodcaa
/- THE CELL 'sum', in the pinned program and in every row, IS THE sha256 OF THE DUMP (.gsa) THAT YtaoddlcoedodcaaProg.lean LOADS. Nothing in Lean hashes anything: it is a label: what it is worth is what the hold of that sum in a sandbox is worth. -/
noncomputable def Try.pinned : Pinned := { name := "ytaoddlcoedodcaa", sum := "f4aaaa2c39d52cee13b7d1cacc6fefe3d630f4391ba50798cdfacb3e9f2bfb4e", checked := Try.checked }
namespace Rows
def none {H : Type} : Left H := { results := [], args := [] }

/-- 'ratlinelaw14.WalkNodes': WHATEVER THE INPUT: true; the input reads as it did. -/
def walkNodesSpec : ChangeSpec := { name := "walkNodes", fn := fun _ => fun
  | [d] => { results := [.lit (.bool true)], args := [d] }
  | _ => none }
def walkNodesRow : OpenClaim := { program := "ytaoddlcoedodcaa", sum := "f4aaaa2c39d52cee13b7d1cacc6fefe3d630f4391ba50798cdfacb3e9f2bfb4e", func := "ratline/ratlinelaw14.WalkNodes", spec := "walkNodes", apart := false }
def WalkNodesSaid : Prop := walkNodesRow.holds Try.pinned (OpenSpec.ofChange walkNodesSpec)

/-- ITS FALSE NEIGHBOUR: 'it returns false'. Refute it at one input. -/
def walkNodesWrong : ChangeSpec := { name := "walkNodes", fn := fun _ => fun
  | [d] => { results := [.lit (.bool false)], args := [d] }
  | _ => none }
def WalkNodesWrongFalsely : Prop := walkNodesRow.holds Try.pinned (OpenSpec.ofChange walkNodesWrong)

/-- 'ratlinelaw14.WalkTree': WHATEVER THE INPUT: true; the input reads as it did. -/
def walkTreeSpec : ChangeSpec := { name := "walkTree", fn := fun _ => fun
  | [d1, d2] => { results := [.lit (.bool true)], args := [d1, d2] }
  | _ => none }
def walkTreeRow : OpenClaim := { program := "ytaoddlcoedodcaa", sum := "f4aaaa2c39d52cee13b7d1cacc6fefe3d630f4391ba50798cdfacb3e9f2bfb4e", func := "ratline/ratlinelaw14.WalkTree", spec := "walkTree", apart := false }
def WalkTreeSaid : Prop := walkTreeRow.holds Try.pinned (OpenSpec.ofChange walkTreeSpec)

/-- ITS FALSE NEIGHBOUR: 'it returns false'. Refute it at one input. -/
def walkTreeWrong : ChangeSpec := { name := "walkTree", fn := fun _ => fun
  | [d1, d2] => { results := [.lit (.bool false)], args := [d1, d2] }
  | _ => none }
def WalkTreeWrongFalsely : Prop := walkTreeRow.holds Try.pinned (OpenSpec.ofChange walkTreeWrong)

/-- 'ratlinelaw14.WalkTwo': WHATEVER THE INPUT: true; the input reads as it did. -/
def walkTwoSpec : ChangeSpec := { name := "walkTwo", fn := fun _ => fun
  | [d1, d2, d3] => { results := [.lit (.bool true)], args := [d1, d2, d3] }
  | _ => none }
def walkTwoRow : OpenClaim := { program := "ytaoddlcoedodcaa", sum := "f4aaaa2c39d52cee13b7d1cacc6fefe3d630f4391ba50798cdfacb3e9f2bfb4e", func := "ratline/ratlinelaw14.WalkTwo", spec := "walkTwo", apart := false }
def WalkTwoSaid : Prop := walkTwoRow.holds Try.pinned (OpenSpec.ofChange walkTwoSpec)

/-- ITS FALSE NEIGHBOUR: 'it returns false'. Refute it at one input. -/
def walkTwoWrong : ChangeSpec := { name := "walkTwo", fn := fun _ => fun
  | [d1, d2, d3] => { results := [.lit (.bool false)], args := [d1, d2, d3] }
  | _ => none }
def WalkTwoWrongFalsely : Prop := walkTwoRow.holds Try.pinned (OpenSpec.ofChange walkTwoWrong)

/-- 'ratlinelaw14.WalkCover': WHATEVER THE INPUT: true; the input reads as it did. -/
def walkCoverSpec : ChangeSpec := { name := "walkCover", fn := fun _ => fun
  | [d1, d2] => { results := [.lit (.bool true)], args := [d1, d2] }
  | _ => none }
def walkCoverRow : OpenClaim := { program := "ytaoddlcoedodcaa", sum := "f4aaaa2c39d52cee13b7d1cacc6fefe3d630f4391ba50798cdfacb3e9f2bfb4e", func := "ratline/ratlinelaw14.WalkCover", spec := "walkCover", apart := false }
def WalkCoverSaid : Prop := walkCoverRow.holds Try.pinned (OpenSpec.ofChange walkCoverSpec)

/-- ITS FALSE NEIGHBOUR: 'it returns false'. Refute it at one input. -/
def walkCoverWrong : ChangeSpec := { name := "walkCover", fn := fun _ => fun
  | [d1, d2] => { results := [.lit (.bool false)], args := [d1, d2] }
  | _ => none }
def WalkCoverWrongFalsely : Prop := walkCoverRow.holds Try.pinned (OpenSpec.ofChange walkCoverWrong)

/-- 'ratlinelaw14.WalkBack': WHATEVER THE INPUT: true; the input reads as it did. -/
def walkBackSpec : ChangeSpec := { name := "walkBack", fn := fun _ => fun
  | [d1, d2] => { results := [.lit (.bool true)], args := [d1, d2] }
  | _ => none }
def walkBackRow : OpenClaim := { program := "ytaoddlcoedodcaa", sum := "f4aaaa2c39d52cee13b7d1cacc6fefe3d630f4391ba50798cdfacb3e9f2bfb4e", func := "ratline/ratlinelaw14.WalkBack", spec := "walkBack", apart := false }
def WalkBackSaid : Prop := walkBackRow.holds Try.pinned (OpenSpec.ofChange walkBackSpec)

/-- ITS FALSE NEIGHBOUR: 'it returns false'. Refute it at one input. -/
def walkBackWrong : ChangeSpec := { name := "walkBack", fn := fun _ => fun
  | [d1, d2] => { results := [.lit (.bool false)], args := [d1, d2] }
  | _ => none }
def WalkBackWrongFalsely : Prop := walkBackRow.holds Try.pinned (OpenSpec.ofChange walkBackWrong)

/-- 'ratlinelaw14.WalkGrows': WHATEVER THE INPUT: true; the input reads as it did. -/
def walkGrowsSpec : ChangeSpec := { name := "walkGrows", fn := fun _ => fun
  | [d1, d2] => { results := [.lit (.bool true)], args := [d1, d2] }
  | _ => none }
def walkGrowsRow : OpenClaim := { program := "ytaoddlcoedodcaa", sum := "f4aaaa2c39d52cee13b7d1cacc6fefe3d630f4391ba50798cdfacb3e9f2bfb4e", func := "ratline/ratlinelaw14.WalkGrows", spec := "walkGrows", apart := false }
def WalkGrowsSaid : Prop := walkGrowsRow.holds Try.pinned (OpenSpec.ofChange walkGrowsSpec)

/-- ITS FALSE NEIGHBOUR: 'it returns false'. Refute it at one input. -/
def walkGrowsWrong : ChangeSpec := { name := "walkGrows", fn := fun _ => fun
  | [d1, d2] => { results := [.lit (.bool false)], args := [d1, d2] }
  | _ => none }
def WalkGrowsWrongFalsely : Prop := walkGrowsRow.holds Try.pinned (OpenSpec.ofChange walkGrowsWrong)

/- THE SECOND FORM. 'bulk': how many values and letters a reading holds, each counted each time it is reached (what is shared counts as often as it is met; a slice's spare places count too). A statement '..UptoSaid' is the law's where the arguments, and the package variables that the reading takes, are together of bulk at most 1048576: NARROWER than '..Said'. Prove '..Said' where nothing that the law and all that it calls make is longer than what came in: it says more and counts as full. Else prove '..UptoSaid'. A law counts once. -/
mutual
def uptoBulk {H : Type} : DataW H → Nat
  | .lit (.string bytes) => bytes.length + 1
  | .lit _ => 1
  | .nil => 1
  | .ptr d => uptoBulk d + 1
  | .slice elems spare => uptoBulkAll elems + uptoBulkAll spare + 1
  | .agg parts => uptoBulkAll parts + 1
  | .iface _ d => uptoBulk d + 1
  | .map entries => uptoBulkEntries entries + 1
  | .held _ => 1
def uptoBulkAll {H : Type} : List (DataW H) → Nat
  | [] => 0
  | d :: r => uptoBulk d + uptoBulkAll r
def uptoBulkEntries {H : Type} : List (Lit × DataW H) → Nat
  | [] => 0
  | x :: r => uptoBulkEntry x + uptoBulkEntries r
def uptoBulkEntry {H : Type} : Lit × DataW H → Nat
  | (.string bytes, d) => bytes.length + uptoBulk d + 1
  | (_, d) => uptoBulk d + 1
 end
def uptoSmall : (H : Type) → List (DataW H) → Bool := fun _ ds => decide (uptoBulkAll ds ≤ 1048576)
def OpenSpec.upto (s : _root_.Go.ChangeSpec) : _root_.Go.OpenSpec := { _root_.Go.OpenSpec.ofChange s with cond := some uptoSmall }

/-- 'ratlinelaw14.WalkNodes', WHERE WHAT IT READS IS OF BULK AT MOST 1048576: true; the input reads as it did. -/
def walkNodesUptoRow : OpenClaim := { program := "ytaoddlcoedodcaa", sum := "f4aaaa2c39d52cee13b7d1cacc6fefe3d630f4391ba50798cdfacb3e9f2bfb4e", func := "ratline/ratlinelaw14.WalkNodes", spec := "walkNodes", apart := false, narrowed := true }
def WalkNodesUptoSaid : Prop := walkNodesUptoRow.holds Try.pinned (OpenSpec.upto walkNodesSpec)

/-- 'ratlinelaw14.WalkTree', WHERE WHAT IT READS IS OF BULK AT MOST 1048576: true; the input reads as it did. -/
def walkTreeUptoRow : OpenClaim := { program := "ytaoddlcoedodcaa", sum := "f4aaaa2c39d52cee13b7d1cacc6fefe3d630f4391ba50798cdfacb3e9f2bfb4e", func := "ratline/ratlinelaw14.WalkTree", spec := "walkTree", apart := false, narrowed := true }
def WalkTreeUptoSaid : Prop := walkTreeUptoRow.holds Try.pinned (OpenSpec.upto walkTreeSpec)

/-- 'ratlinelaw14.WalkTwo', WHERE WHAT IT READS IS OF BULK AT MOST 1048576: true; the input reads as it did. -/
def walkTwoUptoRow : OpenClaim := { program := "ytaoddlcoedodcaa", sum := "f4aaaa2c39d52cee13b7d1cacc6fefe3d630f4391ba50798cdfacb3e9f2bfb4e", func := "ratline/ratlinelaw14.WalkTwo", spec := "walkTwo", apart := false, narrowed := true }
def WalkTwoUptoSaid : Prop := walkTwoUptoRow.holds Try.pinned (OpenSpec.upto walkTwoSpec)

/-- 'ratlinelaw14.WalkCover', WHERE WHAT IT READS IS OF BULK AT MOST 1048576: true; the input reads as it did. -/
def walkCoverUptoRow : OpenClaim := { program := "ytaoddlcoedodcaa", sum := "f4aaaa2c39d52cee13b7d1cacc6fefe3d630f4391ba50798cdfacb3e9f2bfb4e", func := "ratline/ratlinelaw14.WalkCover", spec := "walkCover", apart := false, narrowed := true }
def WalkCoverUptoSaid : Prop := walkCoverUptoRow.holds Try.pinned (OpenSpec.upto walkCoverSpec)

/-- 'ratlinelaw14.WalkBack', WHERE WHAT IT READS IS OF BULK AT MOST 1048576: true; the input reads as it did. -/
def walkBackUptoRow : OpenClaim := { program := "ytaoddlcoedodcaa", sum := "f4aaaa2c39d52cee13b7d1cacc6fefe3d630f4391ba50798cdfacb3e9f2bfb4e", func := "ratline/ratlinelaw14.WalkBack", spec := "walkBack", apart := false, narrowed := true }
def WalkBackUptoSaid : Prop := walkBackUptoRow.holds Try.pinned (OpenSpec.upto walkBackSpec)

/-- 'ratlinelaw14.WalkGrows', WHERE WHAT IT READS IS OF BULK AT MOST 1048576: true; the input reads as it did. -/
def walkGrowsUptoRow : OpenClaim := { program := "ytaoddlcoedodcaa", sum := "f4aaaa2c39d52cee13b7d1cacc6fefe3d630f4391ba50798cdfacb3e9f2bfb4e", func := "ratline/ratlinelaw14.WalkGrows", spec := "walkGrows", apart := false, narrowed := true }
def WalkGrowsUptoSaid : Prop := walkGrowsUptoRow.holds Try.pinned (OpenSpec.upto walkGrowsSpec)

end Rows
end Go.Proofs.Ytaoddlcoedodcaa
