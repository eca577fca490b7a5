/-
  DERIVED. GIVEN WITH THE SEED: THE CARDS: each row of YtokggppfobbblaaDoorRows.lean that lists a variable, with what it lists TIED to the program's text (the seventh form; the later family's looks); each row that meets fmt, with fmt's text TOLD by the authors' own Lean function (tested against real Go, not proved from fmt's source: count such statements apart). THE CARD IS WHAT COUNTS. Prove the row's statement (the work); the ties are given (YtokggppfobbblaaDoorTie.lean); close each card by the builder's one call (the guide's Derived/Test/ToyasCard.lean, 'card_holds'). Laid BY PROGRAM, IN A SANDBOX (cutbox-door.mjs). By AI agents, Wed Nov 11 2026. No macro, syntax, notation, axiom, sorry.
-/
import Derived.Test.YtokggppfobbblaaDoorRows
import GoSem.ClaimSeven
namespace Go.Proofs.YtokggppfobbblaaDoor
namespace Rows

/-- THE TIED CARD OF 'ratlinelaw02.ShaIs'. -/
def shaIsCard : Claim7 := { stood := { row := shaIsRow, standIns := [], harness := (true, "0fe9f97f76a5e52ca650be4d529d7b3d56fb986284726b8d0c14576aad004877"), looks := false }, kinds := [], alts := [], laidByText := true, laidKinds := [.data, .data], laidTests := true, laidLooks := .later }
def ShaIsCardSaid : Prop := Claim7.holds Tryd.pinned (.plain (OpenSpec.ofChange shaIsSpec)) shaIsCard

/-- THE TIED CARD OF 'ratlinelaw02.ShaMore'. -/
def shaMoreCard : Claim7 := { stood := { row := shaMoreRow, standIns := [], harness := (true, "0fe9f97f76a5e52ca650be4d529d7b3d56fb986284726b8d0c14576aad004877"), looks := false }, kinds := [], alts := [], laidByText := true, laidKinds := [.data, .data], laidTests := true, laidLooks := .later }
def ShaMoreCardSaid : Prop := Claim7.holds Tryd.pinned (.plain (OpenSpec.ofChange shaMoreSpec)) shaMoreCard

/-- THE TIED CARD OF 'ratlinelaw03.LongIs'. -/
def longIsCard : Claim7 := { stood := { row := longIsRow, standIns := [], harness := (true, "0fe9f97f76a5e52ca650be4d529d7b3d56fb986284726b8d0c14576aad004877"), looks := false }, kinds := [], alts := [], laidByText := true, laidKinds := [.data, .data], laidTests := true, laidLooks := .later }
def LongIsCardSaid : Prop := Claim7.holds Tryd.pinned (.plain (OpenSpec.ofChange longIsSpec)) longIsCard

/-- THE TIED CARD OF 'ratlinelaw04.MacIs'. -/
def macIsCard : Claim7 := { stood := { row := macIsRow, standIns := [], harness := (true, "0fe9f97f76a5e52ca650be4d529d7b3d56fb986284726b8d0c14576aad004877"), looks := false }, kinds := [], alts := [], laidByText := true, laidKinds := [.data, .data], laidTests := true, laidLooks := .later }
def MacIsCardSaid : Prop := Claim7.holds Tryd.pinned (.plain (OpenSpec.ofChange macIsSpec)) macIsCard

/-- THE TIED CARD OF 'ratlinelaw04.MacSame'. -/
def macSameCard : Claim7 := { stood := { row := macSameRow, standIns := [], harness := (true, "0fe9f97f76a5e52ca650be4d529d7b3d56fb986284726b8d0c14576aad004877"), looks := false }, kinds := [], alts := [], laidByText := true, laidKinds := [.data, .data], laidTests := true, laidLooks := .later }
def MacSameCardSaid : Prop := Claim7.holds Tryd.pinned (.plain (OpenSpec.ofChange macSameSpec)) macSameCard

/-- THE TIED CARD OF 'ratlinelaw04.MacKeys'. -/
def macKeysCard : Claim7 := { stood := { row := macKeysRow, standIns := [], harness := (true, "0fe9f97f76a5e52ca650be4d529d7b3d56fb986284726b8d0c14576aad004877"), looks := false }, kinds := [], alts := [], laidByText := true, laidKinds := [.data, .data], laidTests := true, laidLooks := .later }
def MacKeysCardSaid : Prop := Claim7.holds Tryd.pinned (.plain (OpenSpec.ofChange macKeysSpec)) macKeysCard

/-- THE SECOND FORM's CARD OF 'ratlinelaw02.ShaIs'. -/
def shaIsUptoCard : Claim7 := { stood := { row := shaIsUptoRow, standIns := [], harness := (true, "0fe9f97f76a5e52ca650be4d529d7b3d56fb986284726b8d0c14576aad004877"), looks := false }, kinds := [], alts := [], laidByText := true, laidKinds := [.data, .data], laidTests := true, laidLooks := .later }
def ShaIsUptoCardSaid : Prop := Claim7.holds Tryd.pinned (.plain (OpenSpec.upto shaIsSpec)) shaIsUptoCard

/-- THE SECOND FORM's CARD OF 'ratlinelaw02.ShaMore'. -/
def shaMoreUptoCard : Claim7 := { stood := { row := shaMoreUptoRow, standIns := [], harness := (true, "0fe9f97f76a5e52ca650be4d529d7b3d56fb986284726b8d0c14576aad004877"), looks := false }, kinds := [], alts := [], laidByText := true, laidKinds := [.data, .data], laidTests := true, laidLooks := .later }
def ShaMoreUptoCardSaid : Prop := Claim7.holds Tryd.pinned (.plain (OpenSpec.upto shaMoreSpec)) shaMoreUptoCard

/-- THE SECOND FORM's CARD OF 'ratlinelaw03.LongIs'. -/
def longIsUptoCard : Claim7 := { stood := { row := longIsUptoRow, standIns := [], harness := (true, "0fe9f97f76a5e52ca650be4d529d7b3d56fb986284726b8d0c14576aad004877"), looks := false }, kinds := [], alts := [], laidByText := true, laidKinds := [.data, .data], laidTests := true, laidLooks := .later }
def LongIsUptoCardSaid : Prop := Claim7.holds Tryd.pinned (.plain (OpenSpec.upto longIsSpec)) longIsUptoCard

/-- THE SECOND FORM's CARD OF 'ratlinelaw04.MacIs'. -/
def macIsUptoCard : Claim7 := { stood := { row := macIsUptoRow, standIns := [], harness := (true, "0fe9f97f76a5e52ca650be4d529d7b3d56fb986284726b8d0c14576aad004877"), looks := false }, kinds := [], alts := [], laidByText := true, laidKinds := [.data, .data], laidTests := true, laidLooks := .later }
def MacIsUptoCardSaid : Prop := Claim7.holds Tryd.pinned (.plain (OpenSpec.upto macIsSpec)) macIsUptoCard

/-- THE SECOND FORM's CARD OF 'ratlinelaw04.MacSame'. -/
def macSameUptoCard : Claim7 := { stood := { row := macSameUptoRow, standIns := [], harness := (true, "0fe9f97f76a5e52ca650be4d529d7b3d56fb986284726b8d0c14576aad004877"), looks := false }, kinds := [], alts := [], laidByText := true, laidKinds := [.data, .data], laidTests := true, laidLooks := .later }
def MacSameUptoCardSaid : Prop := Claim7.holds Tryd.pinned (.plain (OpenSpec.upto macSameSpec)) macSameUptoCard

/-- THE SECOND FORM's CARD OF 'ratlinelaw04.MacKeys'. -/
def macKeysUptoCard : Claim7 := { stood := { row := macKeysUptoRow, standIns := [], harness := (true, "0fe9f97f76a5e52ca650be4d529d7b3d56fb986284726b8d0c14576aad004877"), looks := false }, kinds := [], alts := [], laidByText := true, laidKinds := [.data, .data], laidTests := true, laidLooks := .later }
def MacKeysUptoCardSaid : Prop := Claim7.holds Tryd.pinned (.plain (OpenSpec.upto macKeysSpec)) macKeysUptoCard
end Rows
end Go.Proofs.YtokggppfobbblaaDoor
