/-
  DERIVED. GIVEN WITH THE SEED: THE CARDS: each row of YtpdgedeghjfaaaaGreatDoorRows.lean that lists a variable, with what it lists TIED to the program's text (the seventh form; the later family's looks); each row that meets fmt, with fmt's text TOLD by the authors' own Lean function (tested against real Go, not proved from fmt's source: count such statements apart). THE CARD IS WHAT COUNTS. Prove the row's statement (the work); the ties are given (YtpdgedeghjfaaaaGreatDoorTie.lean); close each card by the builder's one call (the guide's Derived/Test/ToyasCard.lean, 'card_holds'). Laid BY PROGRAM, IN A SANDBOX (cutbox-door.mjs). By AI agents, Wed Nov 11 2026. No macro, syntax, notation, axiom, sorry.
-/
import Derived.Test.YtpdgedeghjfaaaaGreatDoorRows
import GoSem.ClaimSeven
namespace Go.Proofs.YtpdgedeghjfaaaaGreatDoor
namespace Rows

/-- THE TIED CARD OF 'ratlinelaw10.SignHolds'. -/
def signHoldsCard : Claim7 := { stood := { row := signHoldsRow, standIns := [], harness := (true, "6847031eb7ec6e7de15525cc1c8fc0a651ac9fb8a4d04037ab08765886096a75"), looks := false }, kinds := [], alts := [], laidByText := true, laidKinds := [.data, .data], laidTests := true, laidLooks := .later }
def SignHoldsCardSaid : Prop := Claim7.holds Tryz.pinned (.plain (OpenSpec.ofChange signHoldsSpec)) signHoldsCard

/-- THE SECOND FORM's CARD OF 'ratlinelaw10.SignHolds'. -/
def signHoldsUptoCard : Claim7 := { stood := { row := signHoldsUptoRow, standIns := [], harness := (true, "6847031eb7ec6e7de15525cc1c8fc0a651ac9fb8a4d04037ab08765886096a75"), looks := false }, kinds := [], alts := [], laidByText := true, laidKinds := [.data, .data], laidTests := true, laidLooks := .later }
def SignHoldsUptoCardSaid : Prop := Claim7.holds Tryz.pinned (.plain (OpenSpec.upto signHoldsSpec)) signHoldsUptoCard
end Rows
end Go.Proofs.YtpdgedeghjfaaaaGreatDoor
