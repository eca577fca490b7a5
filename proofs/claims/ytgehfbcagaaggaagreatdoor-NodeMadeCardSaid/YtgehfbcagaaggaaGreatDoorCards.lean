/-
  DERIVED. GIVEN WITH THE SEED: THE CARDS: each row of YtgehfbcagaaggaaGreatDoorRows.lean that lists a variable, with what it lists TIED to the program's text (the seventh form; the later family's looks); each row that meets fmt, with fmt's text TOLD by the authors' own Lean function (tested against real Go, not proved from fmt's source: count such statements apart). THE CARD IS WHAT COUNTS. Prove the row's statement (the work); the ties are given (YtgehfbcagaaggaaGreatDoorTie.lean); close each card by the builder's one call (the guide's Derived/Test/ToyasCard.lean, 'card_holds'). Laid BY PROGRAM, IN A SANDBOX (cutbox-door.mjs). By AI agents, Wed Nov 11 2026. No macro, syntax, notation, axiom, sorry.
-/
import Derived.Test.YtgehfbcagaaggaaGreatDoorRows
import GoSem.ClaimSeven
namespace Go.Proofs.YtgehfbcagaaggaaGreatDoor
namespace Rows

/-- THE TIED CARD OF 'ratlinelaw16.NodeSigns'. -/
def nodeSignsCard : Claim7 := { stood := { row := nodeSignsRow, standIns := [], harness := (true, "497af2e39214c994f9af659db180d3d0b0e8df4e8fd7cd883194ac2cde041f92"), looks := false }, kinds := [], alts := [], laidByText := true, laidKinds := [.data, .data], laidTests := true, laidLooks := .later }
def NodeSignsCardSaid : Prop := Claim7.holds Tryz.pinned (.plain (OpenSpec.ofChange nodeSignsSpec)) nodeSignsCard

/-- THE TIED CARD OF 'ratlinelaw16.NodeChecks'. -/
def nodeChecksCard : Claim7 := { stood := { row := nodeChecksRow, standIns := [], harness := (true, "497af2e39214c994f9af659db180d3d0b0e8df4e8fd7cd883194ac2cde041f92"), looks := false }, kinds := [], alts := [], laidByText := true, laidKinds := [.data, .data], laidTests := true, laidLooks := .later }
def NodeChecksCardSaid : Prop := Claim7.holds Tryz.pinned (.plain (OpenSpec.ofChange nodeChecksSpec)) nodeChecksCard

/-- THE TIED CARD OF 'ratlinelaw16.NodeMade'. -/
def nodeMadeCard : Claim7 := { stood := { row := nodeMadeRow, standIns := [], harness := (true, "497af2e39214c994f9af659db180d3d0b0e8df4e8fd7cd883194ac2cde041f92"), looks := false }, kinds := [], alts := [], laidByText := true, laidKinds := [.data, .data], laidTests := true, laidLooks := .later }
def NodeMadeCardSaid : Prop := Claim7.holds Tryz.pinned (.plain (OpenSpec.ofChange nodeMadeSpec)) nodeMadeCard

/-- THE SECOND FORM's CARD OF 'ratlinelaw16.NodeSigns'. -/
def nodeSignsUptoCard : Claim7 := { stood := { row := nodeSignsUptoRow, standIns := [], harness := (true, "497af2e39214c994f9af659db180d3d0b0e8df4e8fd7cd883194ac2cde041f92"), looks := false }, kinds := [], alts := [], laidByText := true, laidKinds := [.data, .data], laidTests := true, laidLooks := .later }
def NodeSignsUptoCardSaid : Prop := Claim7.holds Tryz.pinned (.plain (OpenSpec.upto nodeSignsSpec)) nodeSignsUptoCard

/-- THE SECOND FORM's CARD OF 'ratlinelaw16.NodeChecks'. -/
def nodeChecksUptoCard : Claim7 := { stood := { row := nodeChecksUptoRow, standIns := [], harness := (true, "497af2e39214c994f9af659db180d3d0b0e8df4e8fd7cd883194ac2cde041f92"), looks := false }, kinds := [], alts := [], laidByText := true, laidKinds := [.data, .data], laidTests := true, laidLooks := .later }
def NodeChecksUptoCardSaid : Prop := Claim7.holds Tryz.pinned (.plain (OpenSpec.upto nodeChecksSpec)) nodeChecksUptoCard

/-- THE SECOND FORM's CARD OF 'ratlinelaw16.NodeMade'. -/
def nodeMadeUptoCard : Claim7 := { stood := { row := nodeMadeUptoRow, standIns := [], harness := (true, "497af2e39214c994f9af659db180d3d0b0e8df4e8fd7cd883194ac2cde041f92"), looks := false }, kinds := [], alts := [], laidByText := true, laidKinds := [.data, .data], laidTests := true, laidLooks := .later }
def NodeMadeUptoCardSaid : Prop := Claim7.holds Tryz.pinned (.plain (OpenSpec.upto nodeMadeSpec)) nodeMadeUptoCard
end Rows
end Go.Proofs.YtgehfbcagaaggaaGreatDoor
