/-
  DERIVED. GIVEN WITH THE SEED: THE CARDS: each row of YtpkmidaflnbobaaGreatDoorRows.lean that lists a variable, with what it lists TIED to the program's text (the seventh form; the later family's looks); each row that meets fmt, with fmt's text TOLD by the authors' own Lean function (tested against real Go, not proved from fmt's source: count such statements apart). THE CARD IS WHAT COUNTS. Prove the row's statement (the work); the ties are given (YtpkmidaflnbobaaGreatDoorTie.lean); close each card by the builder's one call (the guide's Derived/Test/ToyasCard.lean, 'card_holds'). Laid BY PROGRAM, IN A SANDBOX (cutbox-door.mjs). By AI agents, Wed Nov 11 2026. No macro, syntax, notation, axiom, sorry.
-/
import Derived.Test.YtpkmidaflnbobaaGreatDoorRows
import GoSem.ClaimSeven
namespace Go.Proofs.YtpkmidaflnbobaaGreatDoor
namespace Rows

/-- THE TIED CARD OF 'ratlinelaw13.HpkePairs'. -/
def hpkePairsCard : Claim7 := { stood := { row := hpkePairsRow, standIns := [], harness := (true, "c8bffb72a4b933ab5ddd8badb5990f6b2fa2b260330166915a3953c1e19ce5e4"), looks := false }, kinds := [], alts := [], laidByText := true, laidKinds := [.data, .data], laidTests := true, laidLooks := .later }
def HpkePairsCardSaid : Prop := Claim7.holds Tryz.pinned (.plain (OpenSpec.ofChange hpkePairsSpec)) hpkePairsCard

/-- THE TIED CARD OF 'ratlinelaw13.HpkeWraps'. -/
def hpkeWrapsCard : Claim7 := { stood := { row := hpkeWrapsRow, standIns := [], harness := (true, "c8bffb72a4b933ab5ddd8badb5990f6b2fa2b260330166915a3953c1e19ce5e4"), looks := false }, kinds := [], alts := [], laidByText := true, laidKinds := [.data, .data], laidTests := true, laidLooks := .later }
def HpkeWrapsCardSaid : Prop := Claim7.holds Tryz.pinned (.plain (OpenSpec.ofChange hpkeWrapsSpec)) hpkeWrapsCard

/-- THE TIED CARD OF 'ratlinelaw13.HpkeUnwraps'. -/
def hpkeUnwrapsCard : Claim7 := { stood := { row := hpkeUnwrapsRow, standIns := [], harness := (true, "c8bffb72a4b933ab5ddd8badb5990f6b2fa2b260330166915a3953c1e19ce5e4"), looks := false }, kinds := [], alts := [], laidByText := true, laidKinds := [.data, .data], laidTests := true, laidLooks := .later }
def HpkeUnwrapsCardSaid : Prop := Claim7.holds Tryz.pinned (.plain (OpenSpec.ofChange hpkeUnwrapsSpec)) hpkeUnwrapsCard

/-- THE TIED CARD OF 'ratlinelaw13.HpkeSeals'. -/
def hpkeSealsCard : Claim7 := { stood := { row := hpkeSealsRow, standIns := [], harness := (true, "c8bffb72a4b933ab5ddd8badb5990f6b2fa2b260330166915a3953c1e19ce5e4"), looks := false }, kinds := [], alts := [], laidByText := true, laidKinds := [.data, .data], laidTests := true, laidLooks := .later }
def HpkeSealsCardSaid : Prop := Claim7.holds Tryz.pinned (.plain (OpenSpec.ofChange hpkeSealsSpec)) hpkeSealsCard

/-- THE TIED CARD OF 'ratlinelaw13.HpkeLabels'. -/
def hpkeLabelsCard : Claim7 := { stood := { row := hpkeLabelsRow, standIns := [], harness := (true, "c8bffb72a4b933ab5ddd8badb5990f6b2fa2b260330166915a3953c1e19ce5e4"), looks := false }, kinds := [], alts := [], laidByText := true, laidKinds := [.data, .data], laidTests := true, laidLooks := .later }
def HpkeLabelsCardSaid : Prop := Claim7.holds Tryz.pinned (.plain (OpenSpec.ofChange hpkeLabelsSpec)) hpkeLabelsCard

/-- THE TIED CARD OF 'ratlinelaw13.HpkeBack'. -/
def hpkeBackCard : Claim7 := { stood := { row := hpkeBackRow, standIns := [], harness := (true, "c8bffb72a4b933ab5ddd8badb5990f6b2fa2b260330166915a3953c1e19ce5e4"), looks := false }, kinds := [], alts := [], laidByText := true, laidKinds := [.data, .data], laidTests := true, laidLooks := .later }
def HpkeBackCardSaid : Prop := Claim7.holds Tryz.pinned (.plain (OpenSpec.ofChange hpkeBackSpec)) hpkeBackCard

/-- THE SECOND FORM's CARD OF 'ratlinelaw13.HpkePairs'. -/
def hpkePairsUptoCard : Claim7 := { stood := { row := hpkePairsUptoRow, standIns := [], harness := (true, "c8bffb72a4b933ab5ddd8badb5990f6b2fa2b260330166915a3953c1e19ce5e4"), looks := false }, kinds := [], alts := [], laidByText := true, laidKinds := [.data, .data], laidTests := true, laidLooks := .later }
def HpkePairsUptoCardSaid : Prop := Claim7.holds Tryz.pinned (.plain (OpenSpec.upto hpkePairsSpec)) hpkePairsUptoCard

/-- THE SECOND FORM's CARD OF 'ratlinelaw13.HpkeWraps'. -/
def hpkeWrapsUptoCard : Claim7 := { stood := { row := hpkeWrapsUptoRow, standIns := [], harness := (true, "c8bffb72a4b933ab5ddd8badb5990f6b2fa2b260330166915a3953c1e19ce5e4"), looks := false }, kinds := [], alts := [], laidByText := true, laidKinds := [.data, .data], laidTests := true, laidLooks := .later }
def HpkeWrapsUptoCardSaid : Prop := Claim7.holds Tryz.pinned (.plain (OpenSpec.upto hpkeWrapsSpec)) hpkeWrapsUptoCard

/-- THE SECOND FORM's CARD OF 'ratlinelaw13.HpkeUnwraps'. -/
def hpkeUnwrapsUptoCard : Claim7 := { stood := { row := hpkeUnwrapsUptoRow, standIns := [], harness := (true, "c8bffb72a4b933ab5ddd8badb5990f6b2fa2b260330166915a3953c1e19ce5e4"), looks := false }, kinds := [], alts := [], laidByText := true, laidKinds := [.data, .data], laidTests := true, laidLooks := .later }
def HpkeUnwrapsUptoCardSaid : Prop := Claim7.holds Tryz.pinned (.plain (OpenSpec.upto hpkeUnwrapsSpec)) hpkeUnwrapsUptoCard

/-- THE SECOND FORM's CARD OF 'ratlinelaw13.HpkeSeals'. -/
def hpkeSealsUptoCard : Claim7 := { stood := { row := hpkeSealsUptoRow, standIns := [], harness := (true, "c8bffb72a4b933ab5ddd8badb5990f6b2fa2b260330166915a3953c1e19ce5e4"), looks := false }, kinds := [], alts := [], laidByText := true, laidKinds := [.data, .data], laidTests := true, laidLooks := .later }
def HpkeSealsUptoCardSaid : Prop := Claim7.holds Tryz.pinned (.plain (OpenSpec.upto hpkeSealsSpec)) hpkeSealsUptoCard

/-- THE SECOND FORM's CARD OF 'ratlinelaw13.HpkeLabels'. -/
def hpkeLabelsUptoCard : Claim7 := { stood := { row := hpkeLabelsUptoRow, standIns := [], harness := (true, "c8bffb72a4b933ab5ddd8badb5990f6b2fa2b260330166915a3953c1e19ce5e4"), looks := false }, kinds := [], alts := [], laidByText := true, laidKinds := [.data, .data], laidTests := true, laidLooks := .later }
def HpkeLabelsUptoCardSaid : Prop := Claim7.holds Tryz.pinned (.plain (OpenSpec.upto hpkeLabelsSpec)) hpkeLabelsUptoCard

/-- THE SECOND FORM's CARD OF 'ratlinelaw13.HpkeBack'. -/
def hpkeBackUptoCard : Claim7 := { stood := { row := hpkeBackUptoRow, standIns := [], harness := (true, "c8bffb72a4b933ab5ddd8badb5990f6b2fa2b260330166915a3953c1e19ce5e4"), looks := false }, kinds := [], alts := [], laidByText := true, laidKinds := [.data, .data], laidTests := true, laidLooks := .later }
def HpkeBackUptoCardSaid : Prop := Claim7.holds Tryz.pinned (.plain (OpenSpec.upto hpkeBackSpec)) hpkeBackUptoCard
end Rows
end Go.Proofs.YtpkmidaflnbobaaGreatDoor
