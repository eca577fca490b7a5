/-
  DERIVED. GIVEN WITH THE SEED: THE CARDS: each row of YtheamlhhfkaknaaGreatDoorRows.lean that lists a variable, with what it lists TIED to the program's text (the seventh form; the later family's looks); each row that meets fmt, with fmt's text TOLD by the authors' own Lean function (tested against real Go, not proved from fmt's source: count such statements apart). THE CARD IS WHAT COUNTS. Prove the row's statement (the work); the ties are given (YtheamlhhfkaknaaGreatDoorTie.lean); close each card by the builder's one call (the guide's Derived/Test/ToyasCard.lean, 'card_holds'). Laid BY PROGRAM, IN A SANDBOX (cutbox-door.mjs). By AI agents, Wed Nov 11 2026. No macro, syntax, notation, axiom, sorry.
-/
import Derived.Test.YtheamlhhfkaknaaGreatDoorRows
import GoSem.ClaimSeven
namespace Go.Proofs.YtheamlhhfkaknaaGreatDoor
namespace Rows

/-- THE TIED CARD OF 'ratlinelaw10.SignMakes'. -/
def signMakesCard : Claim7 := { stood := { row := signMakesRow, standIns := [], harness := (true, "6726d6b174f0abad2eacc6b66261350a762c5dafadcce31bfe6ed73b279181be"), looks := false }, kinds := [], alts := [], laidByText := true, laidKinds := [.data, .data], laidTests := true, laidLooks := .later }
def SignMakesCardSaid : Prop := Claim7.holds Tryz.pinned (.plain (OpenSpec.ofChange signMakesSpec)) signMakesCard

/-- THE TIED CARD OF 'ratlinelaw10.SignBack'. -/
def signBackCard : Claim7 := { stood := { row := signBackRow, standIns := [], harness := (true, "6726d6b174f0abad2eacc6b66261350a762c5dafadcce31bfe6ed73b279181be"), looks := false }, kinds := [], alts := [], laidByText := true, laidKinds := [.data, .data], laidTests := true, laidLooks := .later }
def SignBackCardSaid : Prop := Claim7.holds Tryz.pinned (.plain (OpenSpec.ofChange signBackSpec)) signBackCard

/-- THE SECOND FORM's CARD OF 'ratlinelaw10.SignMakes'. -/
def signMakesUptoCard : Claim7 := { stood := { row := signMakesUptoRow, standIns := [], harness := (true, "6726d6b174f0abad2eacc6b66261350a762c5dafadcce31bfe6ed73b279181be"), looks := false }, kinds := [], alts := [], laidByText := true, laidKinds := [.data, .data], laidTests := true, laidLooks := .later }
def SignMakesUptoCardSaid : Prop := Claim7.holds Tryz.pinned (.plain (OpenSpec.upto signMakesSpec)) signMakesUptoCard

/-- THE SECOND FORM's CARD OF 'ratlinelaw10.SignBack'. -/
def signBackUptoCard : Claim7 := { stood := { row := signBackUptoRow, standIns := [], harness := (true, "6726d6b174f0abad2eacc6b66261350a762c5dafadcce31bfe6ed73b279181be"), looks := false }, kinds := [], alts := [], laidByText := true, laidKinds := [.data, .data], laidTests := true, laidLooks := .later }
def SignBackUptoCardSaid : Prop := Claim7.holds Tryz.pinned (.plain (OpenSpec.upto signBackSpec)) signBackUptoCard
end Rows
end Go.Proofs.YtheamlhhfkaknaaGreatDoor
