/-
  DERIVED. GIVEN WITH THE SEED: THE CARDS: each row of YtpdkpadpdkagoaaDoorRows.lean that lists a variable, with what it lists TIED to the program's text (the seventh form; the later family's looks); each row that meets fmt, with fmt's text TOLD by the authors' own Lean function (tested against real Go, not proved from fmt's source: count such statements apart). THE CARD IS WHAT COUNTS. Prove the row's statement (the work); the ties are given (YtpdkpadpdkagoaaDoorTie.lean); close each card by the builder's one call (the guide's Derived/Test/ToyasCard.lean, 'card_holds'). Laid BY PROGRAM, IN A SANDBOX (cutbox-door.mjs). By AI agents, Wed Nov 11 2026. No macro, syntax, notation, axiom, sorry.
-/
import Derived.Test.YtpdkpadpdkagoaaDoorRows
import GoSem.ClaimSeven
namespace Go.Proofs.YtpdkpadpdkagoaaDoor
namespace Rows

/-- THE TIED CARD OF 'ratlinelaw05.KdfExpands'. -/
def kdfExpandsCard : Claim7 := { stood := { row := kdfExpandsRow, standIns := [], harness := (true, "2b1e2d9daaa9196208f4fb8c6636b8600c0ff4cade4845f92afd62616430d353"), looks := false }, kinds := [], alts := [], laidByText := true, laidKinds := [.data, .data], laidTests := true, laidLooks := .later }
def KdfExpandsCardSaid : Prop := Claim7.holds Tryd.pinned (.plain (OpenSpec.ofChange kdfExpandsSpec)) kdfExpandsCard

/-- THE TIED CARD OF 'ratlinelaw05.KdfLabels'. -/
def kdfLabelsCard : Claim7 := { stood := { row := kdfLabelsRow, standIns := [], harness := (true, "2b1e2d9daaa9196208f4fb8c6636b8600c0ff4cade4845f92afd62616430d353"), looks := false }, kinds := [], alts := [], laidByText := true, laidKinds := [.data, .data], laidTests := true, laidLooks := .later }
def KdfLabelsCardSaid : Prop := Claim7.holds Tryd.pinned (.plain (OpenSpec.ofChange kdfLabelsSpec)) kdfLabelsCard

/-- THE TIED CARD OF 'ratlinelaw05.KdfCuts'. -/
def kdfCutsCard : Claim7 := { stood := { row := kdfCutsRow, standIns := [], harness := (true, "2b1e2d9daaa9196208f4fb8c6636b8600c0ff4cade4845f92afd62616430d353"), looks := false }, kinds := [], alts := [], laidByText := true, laidKinds := [.data, .data], laidTests := true, laidLooks := .later }
def KdfCutsCardSaid : Prop := Claim7.holds Tryd.pinned (.plain (OpenSpec.ofChange kdfCutsSpec)) kdfCutsCard

/-- THE SECOND FORM's CARD OF 'ratlinelaw05.KdfExpands'. -/
def kdfExpandsUptoCard : Claim7 := { stood := { row := kdfExpandsUptoRow, standIns := [], harness := (true, "2b1e2d9daaa9196208f4fb8c6636b8600c0ff4cade4845f92afd62616430d353"), looks := false }, kinds := [], alts := [], laidByText := true, laidKinds := [.data, .data], laidTests := true, laidLooks := .later }
def KdfExpandsUptoCardSaid : Prop := Claim7.holds Tryd.pinned (.plain (OpenSpec.upto kdfExpandsSpec)) kdfExpandsUptoCard

/-- THE SECOND FORM's CARD OF 'ratlinelaw05.KdfLabels'. -/
def kdfLabelsUptoCard : Claim7 := { stood := { row := kdfLabelsUptoRow, standIns := [], harness := (true, "2b1e2d9daaa9196208f4fb8c6636b8600c0ff4cade4845f92afd62616430d353"), looks := false }, kinds := [], alts := [], laidByText := true, laidKinds := [.data, .data], laidTests := true, laidLooks := .later }
def KdfLabelsUptoCardSaid : Prop := Claim7.holds Tryd.pinned (.plain (OpenSpec.upto kdfLabelsSpec)) kdfLabelsUptoCard

/-- THE SECOND FORM's CARD OF 'ratlinelaw05.KdfCuts'. -/
def kdfCutsUptoCard : Claim7 := { stood := { row := kdfCutsUptoRow, standIns := [], harness := (true, "2b1e2d9daaa9196208f4fb8c6636b8600c0ff4cade4845f92afd62616430d353"), looks := false }, kinds := [], alts := [], laidByText := true, laidKinds := [.data, .data], laidTests := true, laidLooks := .later }
def KdfCutsUptoCardSaid : Prop := Claim7.holds Tryd.pinned (.plain (OpenSpec.upto kdfCutsSpec)) kdfCutsUptoCard
end Rows
end Go.Proofs.YtpdkpadpdkagoaaDoor
