/-
  DERIVED. GIVEN WITH THE SEED: THE CARDS: each row of YtankjblkiekmmaaDoorRows.lean that lists a variable, with what it lists TIED to the program's text (the seventh form; the later family's looks); each row that meets fmt, with fmt's text TOLD by the authors' own Lean function (tested against real Go, not proved from fmt's source: count such statements apart). THE CARD IS WHAT COUNTS. Prove the row's statement (the work); the ties are given (YtankjblkiekmmaaDoorTie.lean); close each card by the builder's one call (the guide's Derived/Test/ToyasCard.lean, 'card_holds'). Laid BY PROGRAM, IN A SANDBOX (cutbox-door.mjs). By AI agents, Wed Nov 11 2026. No macro, syntax, notation, axiom, sorry.
-/
import Derived.Test.YtankjblkiekmmaaDoorRows
import GoSem.ClaimSeven
namespace Go.Proofs.YtankjblkiekmmaaDoor
namespace Rows

/-- THE TIED CARD OF 'ratlinelaw02.ShaIs'. -/
def shaIsCard : Claim7 := { stood := { row := shaIsRow, standIns := [], harness := (true, "f317029958f6a550dac31e73596a1ec5d5ae71596e963780fb139b2bb9291160"), looks := false }, kinds := [], alts := [], laidByText := true, laidKinds := [.data, .data], laidTests := true, laidLooks := .later }
def ShaIsCardSaid : Prop := Claim7.holds Tryd.pinned (.plain (OpenSpec.ofChange shaIsSpec)) shaIsCard

/-- THE TIED CARD OF 'ratlinelaw02.ShaParts'. -/
def shaPartsCard : Claim7 := { stood := { row := shaPartsRow, standIns := [], harness := (true, "f317029958f6a550dac31e73596a1ec5d5ae71596e963780fb139b2bb9291160"), looks := false }, kinds := [], alts := [], laidByText := true, laidKinds := [.data, .data], laidTests := true, laidLooks := .later }
def ShaPartsCardSaid : Prop := Claim7.holds Tryd.pinned (.plain (OpenSpec.ofChange shaPartsSpec)) shaPartsCard

/-- THE TIED CARD OF 'ratlinelaw02.ShaStays'. -/
def shaStaysCard : Claim7 := { stood := { row := shaStaysRow, standIns := [], harness := (true, "f317029958f6a550dac31e73596a1ec5d5ae71596e963780fb139b2bb9291160"), looks := false }, kinds := [], alts := [], laidByText := true, laidKinds := [.data, .data], laidTests := true, laidLooks := .later }
def ShaStaysCardSaid : Prop := Claim7.holds Tryd.pinned (.plain (OpenSpec.ofChange shaStaysSpec)) shaStaysCard

/-- THE TIED CARD OF 'ratlinelaw02.ShaMore'. -/
def shaMoreCard : Claim7 := { stood := { row := shaMoreRow, standIns := [], harness := (true, "f317029958f6a550dac31e73596a1ec5d5ae71596e963780fb139b2bb9291160"), looks := false }, kinds := [], alts := [], laidByText := true, laidKinds := [.data, .data], laidTests := true, laidLooks := .later }
def ShaMoreCardSaid : Prop := Claim7.holds Tryd.pinned (.plain (OpenSpec.ofChange shaMoreSpec)) shaMoreCard

/-- THE TIED CARD OF 'ratlinelaw03.LongIs'. -/
def longIsCard : Claim7 := { stood := { row := longIsRow, standIns := [], harness := (true, "f317029958f6a550dac31e73596a1ec5d5ae71596e963780fb139b2bb9291160"), looks := false }, kinds := [], alts := [], laidByText := true, laidKinds := [.data, .data], laidTests := true, laidLooks := .later }
def LongIsCardSaid : Prop := Claim7.holds Tryd.pinned (.plain (OpenSpec.ofChange longIsSpec)) longIsCard

/-- THE TIED CARD OF 'ratlinelaw03.LongRoots'. -/
def longRootsCard : Claim7 := { stood := { row := longRootsRow, standIns := [], harness := (true, "f317029958f6a550dac31e73596a1ec5d5ae71596e963780fb139b2bb9291160"), looks := false }, kinds := [], alts := [], laidByText := true, laidKinds := [.data, .data], laidTests := true, laidLooks := .later }
def LongRootsCardSaid : Prop := Claim7.holds Tryd.pinned (.plain (OpenSpec.ofChange longRootsSpec)) longRootsCard

/-- THE TIED CARD OF 'ratlinelaw03.LongStays'. -/
def longStaysCard : Claim7 := { stood := { row := longStaysRow, standIns := [], harness := (true, "f317029958f6a550dac31e73596a1ec5d5ae71596e963780fb139b2bb9291160"), looks := false }, kinds := [], alts := [], laidByText := true, laidKinds := [.data, .data], laidTests := true, laidLooks := .later }
def LongStaysCardSaid : Prop := Claim7.holds Tryd.pinned (.plain (OpenSpec.ofChange longStaysSpec)) longStaysCard

/-- THE SECOND FORM's CARD OF 'ratlinelaw02.ShaIs'. -/
def shaIsUptoCard : Claim7 := { stood := { row := shaIsUptoRow, standIns := [], harness := (true, "f317029958f6a550dac31e73596a1ec5d5ae71596e963780fb139b2bb9291160"), looks := false }, kinds := [], alts := [], laidByText := true, laidKinds := [.data, .data], laidTests := true, laidLooks := .later }
def ShaIsUptoCardSaid : Prop := Claim7.holds Tryd.pinned (.plain (OpenSpec.upto shaIsSpec)) shaIsUptoCard

/-- THE SECOND FORM's CARD OF 'ratlinelaw02.ShaParts'. -/
def shaPartsUptoCard : Claim7 := { stood := { row := shaPartsUptoRow, standIns := [], harness := (true, "f317029958f6a550dac31e73596a1ec5d5ae71596e963780fb139b2bb9291160"), looks := false }, kinds := [], alts := [], laidByText := true, laidKinds := [.data, .data], laidTests := true, laidLooks := .later }
def ShaPartsUptoCardSaid : Prop := Claim7.holds Tryd.pinned (.plain (OpenSpec.upto shaPartsSpec)) shaPartsUptoCard

/-- THE SECOND FORM's CARD OF 'ratlinelaw02.ShaStays'. -/
def shaStaysUptoCard : Claim7 := { stood := { row := shaStaysUptoRow, standIns := [], harness := (true, "f317029958f6a550dac31e73596a1ec5d5ae71596e963780fb139b2bb9291160"), looks := false }, kinds := [], alts := [], laidByText := true, laidKinds := [.data, .data], laidTests := true, laidLooks := .later }
def ShaStaysUptoCardSaid : Prop := Claim7.holds Tryd.pinned (.plain (OpenSpec.upto shaStaysSpec)) shaStaysUptoCard

/-- THE SECOND FORM's CARD OF 'ratlinelaw02.ShaMore'. -/
def shaMoreUptoCard : Claim7 := { stood := { row := shaMoreUptoRow, standIns := [], harness := (true, "f317029958f6a550dac31e73596a1ec5d5ae71596e963780fb139b2bb9291160"), looks := false }, kinds := [], alts := [], laidByText := true, laidKinds := [.data, .data], laidTests := true, laidLooks := .later }
def ShaMoreUptoCardSaid : Prop := Claim7.holds Tryd.pinned (.plain (OpenSpec.upto shaMoreSpec)) shaMoreUptoCard

/-- THE SECOND FORM's CARD OF 'ratlinelaw03.LongIs'. -/
def longIsUptoCard : Claim7 := { stood := { row := longIsUptoRow, standIns := [], harness := (true, "f317029958f6a550dac31e73596a1ec5d5ae71596e963780fb139b2bb9291160"), looks := false }, kinds := [], alts := [], laidByText := true, laidKinds := [.data, .data], laidTests := true, laidLooks := .later }
def LongIsUptoCardSaid : Prop := Claim7.holds Tryd.pinned (.plain (OpenSpec.upto longIsSpec)) longIsUptoCard

/-- THE SECOND FORM's CARD OF 'ratlinelaw03.LongRoots'. -/
def longRootsUptoCard : Claim7 := { stood := { row := longRootsUptoRow, standIns := [], harness := (true, "f317029958f6a550dac31e73596a1ec5d5ae71596e963780fb139b2bb9291160"), looks := false }, kinds := [], alts := [], laidByText := true, laidKinds := [.data, .data], laidTests := true, laidLooks := .later }
def LongRootsUptoCardSaid : Prop := Claim7.holds Tryd.pinned (.plain (OpenSpec.upto longRootsSpec)) longRootsUptoCard

/-- THE SECOND FORM's CARD OF 'ratlinelaw03.LongStays'. -/
def longStaysUptoCard : Claim7 := { stood := { row := longStaysUptoRow, standIns := [], harness := (true, "f317029958f6a550dac31e73596a1ec5d5ae71596e963780fb139b2bb9291160"), looks := false }, kinds := [], alts := [], laidByText := true, laidKinds := [.data, .data], laidTests := true, laidLooks := .later }
def LongStaysUptoCardSaid : Prop := Claim7.holds Tryd.pinned (.plain (OpenSpec.upto longStaysSpec)) longStaysUptoCard
end Rows
end Go.Proofs.YtankjblkiekmmaaDoor
