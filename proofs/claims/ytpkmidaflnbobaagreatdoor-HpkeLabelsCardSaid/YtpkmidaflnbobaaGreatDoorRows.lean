/-
  NARROWER THAN 'FOR EVERY INPUT', by the rows' own cells (each row's printed sentence says how): HpkePairs: laid · HpkeWraps: laid · HpkeUnwraps: laid · HpkeSeals: laid · HpkeLabels: laid · HpkeBack: laid.
  DERIVED. THE GIVEN ROWS OF THIS SEAT. 6 by the template 'for every input the law returns true; each argument reads behind the call as it read before'; 0 by the template 'total and deterministic' (their statements: YtpkmidaflnbobaaGreatDoorTotals.lean).
  GIVEN WITH THE SEED: the statements are not yours to turn. If you find one false, say at which input.
  Laid BY PROGRAM, IN A SANDBOX (cutbox-rows.mjs): the forced cells as the released guide's own fill.sh prints them over the translation 6afb5aa8258c66cd… (all of the seat's roots in one cut). By AI agents, Wed Nov 11 2026. No macro, syntax, notation, axiom, sorry.
-/
import Derived.Test.YtpkmidaflnbobaaGreatDoorChecked
import GoSem.Claim
import GoSem.ClaimJoined
import GoSem.ClaimMapViews
import Derived.JoinedTies
import Derived.KernelRfl
namespace Go.Proofs.YtpkmidaflnbobaaGreatDoor
/- THE CELL 'sum', in the pinned program and in every row, IS THE sha256 OF THE DUMP (.gsa) THAT YtpkmidaflnbobaaGreatDoorProg.lean LOADS. Nothing in Lean hashes anything: it is a label: what it is worth is what the hold of that sum in a sandbox is worth. -/
noncomputable def Tryz.pinned : Pinned := { name := "ytpkmidaflnbobaagreatdoor", sum := "6afb5aa8258c66cdcbf54c6e7d2fc71b99637426d5e66b666357fd5ff0bef893", checked := Tryz.checked }
namespace Rows
def none {H : Type} : Left H := { results := [], args := [] }

/- WHAT THE LISTED PACKAGE-LEVEL VARIABLES READ AS WHEN THE CALL BEGINS. Each datum BY PROGRAM (the guide's laid-datum.mjs) off the statement by which the dump's own 'gosem.cut.vars' lays the variable. In a bare row this is a premise. The card (YtpkmidaflnbobaaGreatDoorCards.lean) ties it to the program's text. -/
def laid_ratline_sha_beginnings {H : Type} : DataW H := .agg [.lit (.int .u32 1779033703), .lit (.int .u32 3144134277), .lit (.int .u32 1013904242), .lit (.int .u32 2773480762), .lit (.int .u32 1359893119), .lit (.int .u32 2600822924), .lit (.int .u32 528734635), .lit (.int .u32 1541459225)]
def laid_ratline_sha_constants {H : Type} : DataW H := .agg [.lit (.int .u32 1116352408), .lit (.int .u32 1899447441), .lit (.int .u32 3049323471), .lit (.int .u32 3921009573), .lit (.int .u32 961987163), .lit (.int .u32 1508970993), .lit (.int .u32 2453635748), .lit (.int .u32 2870763221), .lit (.int .u32 3624381080), .lit (.int .u32 310598401), .lit (.int .u32 607225278), .lit (.int .u32 1426881987), .lit (.int .u32 1925078388), .lit (.int .u32 2162078206), .lit (.int .u32 2614888103), .lit (.int .u32 3248222580), .lit (.int .u32 3835390401), .lit (.int .u32 4022224774), .lit (.int .u32 264347078), .lit (.int .u32 604807628), .lit (.int .u32 770255983), .lit (.int .u32 1249150122), .lit (.int .u32 1555081692), .lit (.int .u32 1996064986), .lit (.int .u32 2554220882), .lit (.int .u32 2821834349), .lit (.int .u32 2952996808), .lit (.int .u32 3210313671), .lit (.int .u32 3336571891), .lit (.int .u32 3584528711), .lit (.int .u32 113926993), .lit (.int .u32 338241895), .lit (.int .u32 666307205), .lit (.int .u32 773529912), .lit (.int .u32 1294757372), .lit (.int .u32 1396182291), .lit (.int .u32 1695183700), .lit (.int .u32 1986661051), .lit (.int .u32 2177026350), .lit (.int .u32 2456956037), .lit (.int .u32 2730485921), .lit (.int .u32 2820302411), .lit (.int .u32 3259730800), .lit (.int .u32 3345764771), .lit (.int .u32 3516065817), .lit (.int .u32 3600352804), .lit (.int .u32 4094571909), .lit (.int .u32 275423344), .lit (.int .u32 430227734), .lit (.int .u32 506948616), .lit (.int .u32 659060556), .lit (.int .u32 883997877), .lit (.int .u32 958139571), .lit (.int .u32 1322822218), .lit (.int .u32 1537002063), .lit (.int .u32 1747873779), .lit (.int .u32 1955562222), .lit (.int .u32 2024104815), .lit (.int .u32 2227730452), .lit (.int .u32 2361852424), .lit (.int .u32 2428436474), .lit (.int .u32 2756734187), .lit (.int .u32 3204031479), .lit (.int .u32 3329325298)]

/-- 'ratlinelaw13.HpkePairs': WHATEVER THE INPUT: true; the input reads as it did. -/
def hpkePairsSpec : ChangeSpec := { name := "hpkePairs", fn := fun _ => fun
  | [d] => { results := [.lit (.bool true)], args := [d] }
  | _ => none }
def hpkePairsRow : OpenClaim := { program := "ytpkmidaflnbobaagreatdoor", sum := "6afb5aa8258c66cdcbf54c6e7d2fc71b99637426d5e66b666357fd5ff0bef893", func := "ratline/ratlinelaw13.HpkePairs", spec := "hpkePairs", inPlace := ["math/bits.Add64", "math/bits.Sub64"], unfollowed := true, recurses := true, named := ["ratline/sha.beginnings", "ratline/sha.constants"], apart := false, laid := [("ratline/sha.beginnings", laid_ratline_sha_beginnings), ("ratline/sha.constants", laid_ratline_sha_constants)] }
def HpkePairsSaid : Prop := hpkePairsRow.holds Tryz.pinned (OpenSpec.ofChange hpkePairsSpec)

/-- ITS FALSE NEIGHBOUR: 'it returns false'. Refute it at one input. -/
def hpkePairsWrong : ChangeSpec := { name := "hpkePairs", fn := fun _ => fun
  | [d] => { results := [.lit (.bool false)], args := [d] }
  | _ => none }
def HpkePairsWrongFalsely : Prop := hpkePairsRow.holds Tryz.pinned (OpenSpec.ofChange hpkePairsWrong)

/-- 'ratlinelaw13.HpkeWraps': WHATEVER THE INPUT: true; the input reads as it did. -/
def hpkeWrapsSpec : ChangeSpec := { name := "hpkeWraps", fn := fun _ => fun
  | [d1, d2] => { results := [.lit (.bool true)], args := [d1, d2] }
  | _ => none }
def hpkeWrapsRow : OpenClaim := { program := "ytpkmidaflnbobaagreatdoor", sum := "6afb5aa8258c66cdcbf54c6e7d2fc71b99637426d5e66b666357fd5ff0bef893", func := "ratline/ratlinelaw13.HpkeWraps", spec := "hpkeWraps", inPlace := ["math/bits.Add64", "math/bits.Sub64"], unfollowed := true, recurses := true, named := ["ratline/sha.beginnings", "ratline/sha.constants"], apart := false, laid := [("ratline/sha.beginnings", laid_ratline_sha_beginnings), ("ratline/sha.constants", laid_ratline_sha_constants)] }
def HpkeWrapsSaid : Prop := hpkeWrapsRow.holds Tryz.pinned (OpenSpec.ofChange hpkeWrapsSpec)

/-- ITS FALSE NEIGHBOUR: 'it returns false'. Refute it at one input. -/
def hpkeWrapsWrong : ChangeSpec := { name := "hpkeWraps", fn := fun _ => fun
  | [d1, d2] => { results := [.lit (.bool false)], args := [d1, d2] }
  | _ => none }
def HpkeWrapsWrongFalsely : Prop := hpkeWrapsRow.holds Tryz.pinned (OpenSpec.ofChange hpkeWrapsWrong)

/-- 'ratlinelaw13.HpkeUnwraps': WHATEVER THE INPUT: true; the input reads as it did. -/
def hpkeUnwrapsSpec : ChangeSpec := { name := "hpkeUnwraps", fn := fun _ => fun
  | [d1, d2, d3, d4] => { results := [.lit (.bool true)], args := [d1, d2, d3, d4] }
  | _ => none }
def hpkeUnwrapsRow : OpenClaim := { program := "ytpkmidaflnbobaagreatdoor", sum := "6afb5aa8258c66cdcbf54c6e7d2fc71b99637426d5e66b666357fd5ff0bef893", func := "ratline/ratlinelaw13.HpkeUnwraps", spec := "hpkeUnwraps", inPlace := ["math/bits.Add64", "math/bits.Sub64"], unfollowed := true, recurses := true, named := ["ratline/sha.beginnings", "ratline/sha.constants"], apart := false, laid := [("ratline/sha.beginnings", laid_ratline_sha_beginnings), ("ratline/sha.constants", laid_ratline_sha_constants)] }
def HpkeUnwrapsSaid : Prop := hpkeUnwrapsRow.holds Tryz.pinned (OpenSpec.ofChange hpkeUnwrapsSpec)

/-- ITS FALSE NEIGHBOUR: 'it returns false'. Refute it at one input. -/
def hpkeUnwrapsWrong : ChangeSpec := { name := "hpkeUnwraps", fn := fun _ => fun
  | [d1, d2, d3, d4] => { results := [.lit (.bool false)], args := [d1, d2, d3, d4] }
  | _ => none }
def HpkeUnwrapsWrongFalsely : Prop := hpkeUnwrapsRow.holds Tryz.pinned (OpenSpec.ofChange hpkeUnwrapsWrong)

/-- 'ratlinelaw13.HpkeSeals': WHATEVER THE INPUT: true; the input reads as it did. -/
def hpkeSealsSpec : ChangeSpec := { name := "hpkeSeals", fn := fun _ => fun
  | [d1, d2, d3, d4, d5] => { results := [.lit (.bool true)], args := [d1, d2, d3, d4, d5] }
  | _ => none }
def hpkeSealsRow : OpenClaim := { program := "ytpkmidaflnbobaagreatdoor", sum := "6afb5aa8258c66cdcbf54c6e7d2fc71b99637426d5e66b666357fd5ff0bef893", func := "ratline/ratlinelaw13.HpkeSeals", spec := "hpkeSeals", inPlace := ["math/bits.Add64", "math/bits.Sub64"], unfollowed := true, recurses := true, named := ["ratline/sha.beginnings", "ratline/sha.constants"], apart := false, laid := [("ratline/sha.beginnings", laid_ratline_sha_beginnings), ("ratline/sha.constants", laid_ratline_sha_constants)] }
def HpkeSealsSaid : Prop := hpkeSealsRow.holds Tryz.pinned (OpenSpec.ofChange hpkeSealsSpec)

/-- ITS FALSE NEIGHBOUR: 'it returns false'. Refute it at one input. -/
def hpkeSealsWrong : ChangeSpec := { name := "hpkeSeals", fn := fun _ => fun
  | [d1, d2, d3, d4, d5] => { results := [.lit (.bool false)], args := [d1, d2, d3, d4, d5] }
  | _ => none }
def HpkeSealsWrongFalsely : Prop := hpkeSealsRow.holds Tryz.pinned (OpenSpec.ofChange hpkeSealsWrong)

/-- 'ratlinelaw13.HpkeLabels': WHATEVER THE INPUT: true; the input reads as it did. -/
def hpkeLabelsSpec : ChangeSpec := { name := "hpkeLabels", fn := fun _ => fun
  | [d1, d2, d3, d4, d5] => { results := [.lit (.bool true)], args := [d1, d2, d3, d4, d5] }
  | _ => none }
def hpkeLabelsRow : OpenClaim := { program := "ytpkmidaflnbobaagreatdoor", sum := "6afb5aa8258c66cdcbf54c6e7d2fc71b99637426d5e66b666357fd5ff0bef893", func := "ratline/ratlinelaw13.HpkeLabels", spec := "hpkeLabels", inPlace := ["math/bits.Add64", "math/bits.Sub64"], unfollowed := true, recurses := true, named := ["ratline/sha.beginnings", "ratline/sha.constants"], apart := false, laid := [("ratline/sha.beginnings", laid_ratline_sha_beginnings), ("ratline/sha.constants", laid_ratline_sha_constants)] }
def HpkeLabelsSaid : Prop := hpkeLabelsRow.holds Tryz.pinned (OpenSpec.ofChange hpkeLabelsSpec)

/-- ITS FALSE NEIGHBOUR: 'it returns false'. Refute it at one input. -/
def hpkeLabelsWrong : ChangeSpec := { name := "hpkeLabels", fn := fun _ => fun
  | [d1, d2, d3, d4, d5] => { results := [.lit (.bool false)], args := [d1, d2, d3, d4, d5] }
  | _ => none }
def HpkeLabelsWrongFalsely : Prop := hpkeLabelsRow.holds Tryz.pinned (OpenSpec.ofChange hpkeLabelsWrong)

/-- 'ratlinelaw13.HpkeBack': WHATEVER THE INPUT: true; the input reads as it did. -/
def hpkeBackSpec : ChangeSpec := { name := "hpkeBack", fn := fun _ => fun
  | [d1, d2, d3, d4, d5] => { results := [.lit (.bool true)], args := [d1, d2, d3, d4, d5] }
  | _ => none }
def hpkeBackRow : OpenClaim := { program := "ytpkmidaflnbobaagreatdoor", sum := "6afb5aa8258c66cdcbf54c6e7d2fc71b99637426d5e66b666357fd5ff0bef893", func := "ratline/ratlinelaw13.HpkeBack", spec := "hpkeBack", inPlace := ["math/bits.Add64", "math/bits.Sub64"], unfollowed := true, recurses := true, named := ["ratline/sha.beginnings", "ratline/sha.constants"], apart := false, laid := [("ratline/sha.beginnings", laid_ratline_sha_beginnings), ("ratline/sha.constants", laid_ratline_sha_constants)] }
def HpkeBackSaid : Prop := hpkeBackRow.holds Tryz.pinned (OpenSpec.ofChange hpkeBackSpec)

/-- ITS FALSE NEIGHBOUR: 'it returns false'. Refute it at one input. -/
def hpkeBackWrong : ChangeSpec := { name := "hpkeBack", fn := fun _ => fun
  | [d1, d2, d3, d4, d5] => { results := [.lit (.bool false)], args := [d1, d2, d3, d4, d5] }
  | _ => none }
def HpkeBackWrongFalsely : Prop := hpkeBackRow.holds Tryz.pinned (OpenSpec.ofChange hpkeBackWrong)

/- THE SECOND FORM. 'bulk': how many values and letters a reading holds, each counted each time it is reached (what is shared counts as often as it is met; a slice's spare places count too). A statement '..UptoSaid' is the law's where the arguments, and the package variables that the reading takes, are together of bulk at most 1048576: NARROWER than '..Said'. Prove '..Said' where nothing that the law and all that it calls make is longer than what came in: it says more and counts as full. Else prove '..UptoSaid'. A law counts once. -/
mutual
def uptoBulk {H : Type} : DataW H → Nat
  | .lit (.string bytes) => bytes.length + 1
  | .lit _ => 1
  | .nil => 1
  | .ptr d => uptoBulk d + 1
  | .slice elems spare => uptoBulkAll elems + uptoBulkAll spare + 1
  | .agg parts => uptoBulkAll parts + 1
  | .iface _ d => uptoBulk d + 1
  | .map entries => uptoBulkEntries entries + 1
  | .held _ => 1
def uptoBulkAll {H : Type} : List (DataW H) → Nat
  | [] => 0
  | d :: r => uptoBulk d + uptoBulkAll r
def uptoBulkEntries {H : Type} : List (Lit × DataW H) → Nat
  | [] => 0
  | x :: r => uptoBulkEntry x + uptoBulkEntries r
def uptoBulkEntry {H : Type} : Lit × DataW H → Nat
  | (.string bytes, d) => bytes.length + uptoBulk d + 1
  | (_, d) => uptoBulk d + 1
 end
def uptoSmall : (H : Type) → List (DataW H) → Bool := fun _ ds => decide (uptoBulkAll ds ≤ 1048576)
def OpenSpec.upto (s : _root_.Go.ChangeSpec) : _root_.Go.OpenSpec := { _root_.Go.OpenSpec.ofChange s with cond := some uptoSmall }

/-- 'ratlinelaw13.HpkePairs', WHERE WHAT IT READS IS OF BULK AT MOST 1048576: true; the input reads as it did. -/
def hpkePairsUptoRow : OpenClaim := { program := "ytpkmidaflnbobaagreatdoor", sum := "6afb5aa8258c66cdcbf54c6e7d2fc71b99637426d5e66b666357fd5ff0bef893", func := "ratline/ratlinelaw13.HpkePairs", spec := "hpkePairs", inPlace := ["math/bits.Add64", "math/bits.Sub64"], unfollowed := true, recurses := true, named := ["ratline/sha.beginnings", "ratline/sha.constants"], apart := false, laid := [("ratline/sha.beginnings", laid_ratline_sha_beginnings), ("ratline/sha.constants", laid_ratline_sha_constants)], narrowed := true }
def HpkePairsUptoSaid : Prop := hpkePairsUptoRow.holds Tryz.pinned (OpenSpec.upto hpkePairsSpec)

/-- 'ratlinelaw13.HpkeWraps', WHERE WHAT IT READS IS OF BULK AT MOST 1048576: true; the input reads as it did. -/
def hpkeWrapsUptoRow : OpenClaim := { program := "ytpkmidaflnbobaagreatdoor", sum := "6afb5aa8258c66cdcbf54c6e7d2fc71b99637426d5e66b666357fd5ff0bef893", func := "ratline/ratlinelaw13.HpkeWraps", spec := "hpkeWraps", inPlace := ["math/bits.Add64", "math/bits.Sub64"], unfollowed := true, recurses := true, named := ["ratline/sha.beginnings", "ratline/sha.constants"], apart := false, laid := [("ratline/sha.beginnings", laid_ratline_sha_beginnings), ("ratline/sha.constants", laid_ratline_sha_constants)], narrowed := true }
def HpkeWrapsUptoSaid : Prop := hpkeWrapsUptoRow.holds Tryz.pinned (OpenSpec.upto hpkeWrapsSpec)

/-- 'ratlinelaw13.HpkeUnwraps', WHERE WHAT IT READS IS OF BULK AT MOST 1048576: true; the input reads as it did. -/
def hpkeUnwrapsUptoRow : OpenClaim := { program := "ytpkmidaflnbobaagreatdoor", sum := "6afb5aa8258c66cdcbf54c6e7d2fc71b99637426d5e66b666357fd5ff0bef893", func := "ratline/ratlinelaw13.HpkeUnwraps", spec := "hpkeUnwraps", inPlace := ["math/bits.Add64", "math/bits.Sub64"], unfollowed := true, recurses := true, named := ["ratline/sha.beginnings", "ratline/sha.constants"], apart := false, laid := [("ratline/sha.beginnings", laid_ratline_sha_beginnings), ("ratline/sha.constants", laid_ratline_sha_constants)], narrowed := true }
def HpkeUnwrapsUptoSaid : Prop := hpkeUnwrapsUptoRow.holds Tryz.pinned (OpenSpec.upto hpkeUnwrapsSpec)

/-- 'ratlinelaw13.HpkeSeals', WHERE WHAT IT READS IS OF BULK AT MOST 1048576: true; the input reads as it did. -/
def hpkeSealsUptoRow : OpenClaim := { program := "ytpkmidaflnbobaagreatdoor", sum := "6afb5aa8258c66cdcbf54c6e7d2fc71b99637426d5e66b666357fd5ff0bef893", func := "ratline/ratlinelaw13.HpkeSeals", spec := "hpkeSeals", inPlace := ["math/bits.Add64", "math/bits.Sub64"], unfollowed := true, recurses := true, named := ["ratline/sha.beginnings", "ratline/sha.constants"], apart := false, laid := [("ratline/sha.beginnings", laid_ratline_sha_beginnings), ("ratline/sha.constants", laid_ratline_sha_constants)], narrowed := true }
def HpkeSealsUptoSaid : Prop := hpkeSealsUptoRow.holds Tryz.pinned (OpenSpec.upto hpkeSealsSpec)

/-- 'ratlinelaw13.HpkeLabels', WHERE WHAT IT READS IS OF BULK AT MOST 1048576: true; the input reads as it did. -/
def hpkeLabelsUptoRow : OpenClaim := { program := "ytpkmidaflnbobaagreatdoor", sum := "6afb5aa8258c66cdcbf54c6e7d2fc71b99637426d5e66b666357fd5ff0bef893", func := "ratline/ratlinelaw13.HpkeLabels", spec := "hpkeLabels", inPlace := ["math/bits.Add64", "math/bits.Sub64"], unfollowed := true, recurses := true, named := ["ratline/sha.beginnings", "ratline/sha.constants"], apart := false, laid := [("ratline/sha.beginnings", laid_ratline_sha_beginnings), ("ratline/sha.constants", laid_ratline_sha_constants)], narrowed := true }
def HpkeLabelsUptoSaid : Prop := hpkeLabelsUptoRow.holds Tryz.pinned (OpenSpec.upto hpkeLabelsSpec)

/-- 'ratlinelaw13.HpkeBack', WHERE WHAT IT READS IS OF BULK AT MOST 1048576: true; the input reads as it did. -/
def hpkeBackUptoRow : OpenClaim := { program := "ytpkmidaflnbobaagreatdoor", sum := "6afb5aa8258c66cdcbf54c6e7d2fc71b99637426d5e66b666357fd5ff0bef893", func := "ratline/ratlinelaw13.HpkeBack", spec := "hpkeBack", inPlace := ["math/bits.Add64", "math/bits.Sub64"], unfollowed := true, recurses := true, named := ["ratline/sha.beginnings", "ratline/sha.constants"], apart := false, laid := [("ratline/sha.beginnings", laid_ratline_sha_beginnings), ("ratline/sha.constants", laid_ratline_sha_constants)], narrowed := true }
def HpkeBackUptoSaid : Prop := hpkeBackUptoRow.holds Tryz.pinned (OpenSpec.upto hpkeBackSpec)

end Rows
end Go.Proofs.YtpkmidaflnbobaaGreatDoor
