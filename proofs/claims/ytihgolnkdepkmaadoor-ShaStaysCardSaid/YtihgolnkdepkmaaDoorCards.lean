/-
  DERIVED. GIVEN WITH THE SEED: THE CARDS: each row of YtihgolnkdepkmaaDoorRows.lean that lists a variable, with what it lists TIED to the program's text (the seventh form; the later family's looks); each row that meets fmt, with fmt's text TOLD by the authors' own Lean function (tested against real Go, not proved from fmt's source: count such statements apart). THE CARD IS WHAT COUNTS. Prove the row's statement (the work); the ties are given (YtihgolnkdepkmaaDoorTie.lean); close each card by the builder's one call (the guide's Derived/Test/ToyasCard.lean, 'card_holds'). Laid BY PROGRAM, IN A SANDBOX (cutbox-door.mjs). By AI agents, Wed Nov 11 2026. No macro, syntax, notation, axiom, sorry.
-/
import Derived.Test.YtihgolnkdepkmaaDoorRows
import GoSem.ClaimSeven
namespace Go.Proofs.YtihgolnkdepkmaaDoor
namespace Rows

/-- THE TIED CARD OF 'ratlinelaw02.ShaIs'. -/
def shaIsCard : Claim7 := { stood := { row := shaIsRow, standIns := [], harness := (true, "b3c9f70f26649be94e43cd8f3f006dcd29f8769dd274cc5f7bb33db35eb03a04"), looks := false }, kinds := [], alts := [], laidByText := true, laidKinds := [.data, .data], laidTests := true, laidLooks := .later }
def ShaIsCardSaid : Prop := Claim7.holds Tryd.pinned (.plain (OpenSpec.ofChange shaIsSpec)) shaIsCard

/-- THE TIED CARD OF 'ratlinelaw02.ShaParts'. -/
def shaPartsCard : Claim7 := { stood := { row := shaPartsRow, standIns := [], harness := (true, "b3c9f70f26649be94e43cd8f3f006dcd29f8769dd274cc5f7bb33db35eb03a04"), looks := false }, kinds := [], alts := [], laidByText := true, laidKinds := [.data, .data], laidTests := true, laidLooks := .later }
def ShaPartsCardSaid : Prop := Claim7.holds Tryd.pinned (.plain (OpenSpec.ofChange shaPartsSpec)) shaPartsCard

/-- THE TIED CARD OF 'ratlinelaw02.ShaStays'. -/
def shaStaysCard : Claim7 := { stood := { row := shaStaysRow, standIns := [], harness := (true, "b3c9f70f26649be94e43cd8f3f006dcd29f8769dd274cc5f7bb33db35eb03a04"), looks := false }, kinds := [], alts := [], laidByText := true, laidKinds := [.data, .data], laidTests := true, laidLooks := .later }
def ShaStaysCardSaid : Prop := Claim7.holds Tryd.pinned (.plain (OpenSpec.ofChange shaStaysSpec)) shaStaysCard

/-- THE TIED CARD OF 'ratlinelaw02.ShaMore'. -/
def shaMoreCard : Claim7 := { stood := { row := shaMoreRow, standIns := [], harness := (true, "b3c9f70f26649be94e43cd8f3f006dcd29f8769dd274cc5f7bb33db35eb03a04"), looks := false }, kinds := [], alts := [], laidByText := true, laidKinds := [.data, .data], laidTests := true, laidLooks := .later }
def ShaMoreCardSaid : Prop := Claim7.holds Tryd.pinned (.plain (OpenSpec.ofChange shaMoreSpec)) shaMoreCard

/-- THE SECOND FORM's CARD OF 'ratlinelaw02.ShaIs'. -/
def shaIsUptoCard : Claim7 := { stood := { row := shaIsUptoRow, standIns := [], harness := (true, "b3c9f70f26649be94e43cd8f3f006dcd29f8769dd274cc5f7bb33db35eb03a04"), looks := false }, kinds := [], alts := [], laidByText := true, laidKinds := [.data, .data], laidTests := true, laidLooks := .later }
def ShaIsUptoCardSaid : Prop := Claim7.holds Tryd.pinned (.plain (OpenSpec.upto shaIsSpec)) shaIsUptoCard

/-- THE SECOND FORM's CARD OF 'ratlinelaw02.ShaParts'. -/
def shaPartsUptoCard : Claim7 := { stood := { row := shaPartsUptoRow, standIns := [], harness := (true, "b3c9f70f26649be94e43cd8f3f006dcd29f8769dd274cc5f7bb33db35eb03a04"), looks := false }, kinds := [], alts := [], laidByText := true, laidKinds := [.data, .data], laidTests := true, laidLooks := .later }
def ShaPartsUptoCardSaid : Prop := Claim7.holds Tryd.pinned (.plain (OpenSpec.upto shaPartsSpec)) shaPartsUptoCard

/-- THE SECOND FORM's CARD OF 'ratlinelaw02.ShaStays'. -/
def shaStaysUptoCard : Claim7 := { stood := { row := shaStaysUptoRow, standIns := [], harness := (true, "b3c9f70f26649be94e43cd8f3f006dcd29f8769dd274cc5f7bb33db35eb03a04"), looks := false }, kinds := [], alts := [], laidByText := true, laidKinds := [.data, .data], laidTests := true, laidLooks := .later }
def ShaStaysUptoCardSaid : Prop := Claim7.holds Tryd.pinned (.plain (OpenSpec.upto shaStaysSpec)) shaStaysUptoCard

/-- THE SECOND FORM's CARD OF 'ratlinelaw02.ShaMore'. -/
def shaMoreUptoCard : Claim7 := { stood := { row := shaMoreUptoRow, standIns := [], harness := (true, "b3c9f70f26649be94e43cd8f3f006dcd29f8769dd274cc5f7bb33db35eb03a04"), looks := false }, kinds := [], alts := [], laidByText := true, laidKinds := [.data, .data], laidTests := true, laidLooks := .later }
def ShaMoreUptoCardSaid : Prop := Claim7.holds Tryd.pinned (.plain (OpenSpec.upto shaMoreSpec)) shaMoreUptoCard
end Rows
end Go.Proofs.YtihgolnkdepkmaaDoor
