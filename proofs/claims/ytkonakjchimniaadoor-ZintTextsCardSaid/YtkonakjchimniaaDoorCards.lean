/-
  DERIVED. GIVEN WITH THE SEED: THE CARDS: each row of YtkonakjchimniaaDoorRows.lean that lists a variable, with what it lists TIED to the program's text (the seventh form; the later family's looks); each row that meets fmt, with fmt's text TOLD by the authors' own Lean function (tested against real Go, not proved from fmt's source: count such statements apart). THE CARD IS WHAT COUNTS. Prove the row's statement (the work); the ties are given (YtkonakjchimniaaDoorTie.lean); close each card by the builder's one call (the guide's Derived/Test/ToyasCard.lean, 'card_holds'). Laid BY PROGRAM, IN A SANDBOX (cutbox-door.mjs). By AI agents, Wed Nov 11 2026. No macro, syntax, notation, axiom, sorry.
-/
import Derived.Test.YtkonakjchimniaaDoorRows
import GoSem.ClaimSeven
namespace Go.Proofs.YtkonakjchimniaaDoor
namespace Rows

/-- THE TIED CARD OF 'cutwaterlaw01.NatQuotients'. -/
def natQuotientsCard : Claim7 := { stood := { row := natQuotientsRow, standIns := [], harness := (true, "1a2a3e94b87639bbb85e3504a5fd01ae03db5ddde827cef45b44657537a80138"), looks := false }, kinds := [], alts := [], laidByText := true, laidKinds := [.data, .pinned], laidTests := true, laidLooks := .later }
def NatQuotientsCardSaid : Prop := Claim7.holds Tryd.pinned (.plain (OpenSpec.ofChange natQuotientsSpec)) natQuotientsCard

/-- THE TIED CARD OF 'cutwaterlaw01.NatGcds'. -/
def natGcdsCard : Claim7 := { stood := { row := natGcdsRow, standIns := [], harness := (true, "1a2a3e94b87639bbb85e3504a5fd01ae03db5ddde827cef45b44657537a80138"), looks := false }, kinds := [], alts := [], laidByText := true, laidKinds := [.data, .pinned], laidTests := true, laidLooks := .later }
def NatGcdsCardSaid : Prop := Claim7.holds Tryd.pinned (.plain (OpenSpec.ofChange natGcdsSpec)) natGcdsCard

/-- THE TIED CARD OF 'cutwaterlaw02.ZintFloors'. -/
def zintFloorsCard : Claim7 := { stood := { row := zintFloorsRow, standIns := [], harness := (true, "1a2a3e94b87639bbb85e3504a5fd01ae03db5ddde827cef45b44657537a80138"), looks := false }, kinds := [], alts := [], laidByText := true, laidKinds := [.data, .pinned], laidTests := true, laidLooks := .later }
def ZintFloorsCardSaid : Prop := Claim7.holds Tryd.pinned (.plain (OpenSpec.ofChange zintFloorsSpec)) zintFloorsCard

/-- THE TIED CARD OF 'cutwaterlaw02.ZintRests'. -/
def zintRestsCard : Claim7 := { stood := { row := zintRestsRow, standIns := [], harness := (true, "1a2a3e94b87639bbb85e3504a5fd01ae03db5ddde827cef45b44657537a80138"), looks := false }, kinds := [], alts := [], laidByText := true, laidKinds := [.data, .pinned], laidTests := true, laidLooks := .later }
def ZintRestsCardSaid : Prop := Claim7.holds Tryd.pinned (.plain (OpenSpec.ofChange zintRestsSpec)) zintRestsCard

/-- THE TIED CARD OF 'cutwaterlaw02.ZintSmall'. -/
def zintSmallCard : Claim7 := { stood := { row := zintSmallRow, standIns := [], harness := (true, "1a2a3e94b87639bbb85e3504a5fd01ae03db5ddde827cef45b44657537a80138"), looks := false }, kinds := [], alts := [], laidByText := true, laidKinds := [.data, .pinned], laidTests := true, laidLooks := .later }
def ZintSmallCardSaid : Prop := Claim7.holds Tryd.pinned (.plain (OpenSpec.ofChange zintSmallSpec)) zintSmallCard

/-- THE TIED CARD OF 'cutwaterlaw02.ZintTexts'. -/
def zintTextsCard : Claim7 := { stood := { row := zintTextsRow, standIns := [], harness := (true, "1a2a3e94b87639bbb85e3504a5fd01ae03db5ddde827cef45b44657537a80138"), looks := false }, kinds := [], alts := [], laidByText := true, laidKinds := [.data, .pinned], laidTests := true, laidLooks := .later }
def ZintTextsCardSaid : Prop := Claim7.holds Tryd.pinned (.plain (OpenSpec.ofChange zintTextsSpec)) zintTextsCard

/-- THE TIED CARD OF 'cutwaterlaw02.ZintOrder'. -/
def zintOrderCard : Claim7 := { stood := { row := zintOrderRow, standIns := [], harness := (true, "1a2a3e94b87639bbb85e3504a5fd01ae03db5ddde827cef45b44657537a80138"), looks := false }, kinds := [], alts := [], laidByText := true, laidKinds := [.data, .pinned], laidTests := true, laidLooks := .later }
def ZintOrderCardSaid : Prop := Claim7.holds Tryd.pinned (.plain (OpenSpec.ofChange zintOrderSpec)) zintOrderCard

/-- THE TIED CARD OF 'cutwaterlaw02.ZintDigits'. -/
def zintDigitsCard : Claim7 := { stood := { row := zintDigitsRow, standIns := [], harness := (true, "1a2a3e94b87639bbb85e3504a5fd01ae03db5ddde827cef45b44657537a80138"), looks := false }, kinds := [], alts := [], laidByText := true, laidKinds := [.data, .pinned], laidTests := true, laidLooks := .later }
def ZintDigitsCardSaid : Prop := Claim7.holds Tryd.pinned (.plain (OpenSpec.ofChange zintDigitsSpec)) zintDigitsCard

/-- THE SECOND FORM's CARD OF 'cutwaterlaw01.NatQuotients'. -/
def natQuotientsUptoCard : Claim7 := { stood := { row := natQuotientsUptoRow, standIns := [], harness := (true, "1a2a3e94b87639bbb85e3504a5fd01ae03db5ddde827cef45b44657537a80138"), looks := false }, kinds := [], alts := [], laidByText := true, laidKinds := [.data, .pinned], laidTests := true, laidLooks := .later }
def NatQuotientsUptoCardSaid : Prop := Claim7.holds Tryd.pinned (.plain (OpenSpec.upto natQuotientsSpec)) natQuotientsUptoCard

/-- THE SECOND FORM's CARD OF 'cutwaterlaw01.NatGcds'. -/
def natGcdsUptoCard : Claim7 := { stood := { row := natGcdsUptoRow, standIns := [], harness := (true, "1a2a3e94b87639bbb85e3504a5fd01ae03db5ddde827cef45b44657537a80138"), looks := false }, kinds := [], alts := [], laidByText := true, laidKinds := [.data, .pinned], laidTests := true, laidLooks := .later }
def NatGcdsUptoCardSaid : Prop := Claim7.holds Tryd.pinned (.plain (OpenSpec.upto natGcdsSpec)) natGcdsUptoCard

/-- THE SECOND FORM's CARD OF 'cutwaterlaw02.ZintFloors'. -/
def zintFloorsUptoCard : Claim7 := { stood := { row := zintFloorsUptoRow, standIns := [], harness := (true, "1a2a3e94b87639bbb85e3504a5fd01ae03db5ddde827cef45b44657537a80138"), looks := false }, kinds := [], alts := [], laidByText := true, laidKinds := [.data, .pinned], laidTests := true, laidLooks := .later }
def ZintFloorsUptoCardSaid : Prop := Claim7.holds Tryd.pinned (.plain (OpenSpec.upto zintFloorsSpec)) zintFloorsUptoCard

/-- THE SECOND FORM's CARD OF 'cutwaterlaw02.ZintRests'. -/
def zintRestsUptoCard : Claim7 := { stood := { row := zintRestsUptoRow, standIns := [], harness := (true, "1a2a3e94b87639bbb85e3504a5fd01ae03db5ddde827cef45b44657537a80138"), looks := false }, kinds := [], alts := [], laidByText := true, laidKinds := [.data, .pinned], laidTests := true, laidLooks := .later }
def ZintRestsUptoCardSaid : Prop := Claim7.holds Tryd.pinned (.plain (OpenSpec.upto zintRestsSpec)) zintRestsUptoCard

/-- THE SECOND FORM's CARD OF 'cutwaterlaw02.ZintSmall'. -/
def zintSmallUptoCard : Claim7 := { stood := { row := zintSmallUptoRow, standIns := [], harness := (true, "1a2a3e94b87639bbb85e3504a5fd01ae03db5ddde827cef45b44657537a80138"), looks := false }, kinds := [], alts := [], laidByText := true, laidKinds := [.data, .pinned], laidTests := true, laidLooks := .later }
def ZintSmallUptoCardSaid : Prop := Claim7.holds Tryd.pinned (.plain (OpenSpec.upto zintSmallSpec)) zintSmallUptoCard

/-- THE SECOND FORM's CARD OF 'cutwaterlaw02.ZintTexts'. -/
def zintTextsUptoCard : Claim7 := { stood := { row := zintTextsUptoRow, standIns := [], harness := (true, "1a2a3e94b87639bbb85e3504a5fd01ae03db5ddde827cef45b44657537a80138"), looks := false }, kinds := [], alts := [], laidByText := true, laidKinds := [.data, .pinned], laidTests := true, laidLooks := .later }
def ZintTextsUptoCardSaid : Prop := Claim7.holds Tryd.pinned (.plain (OpenSpec.upto zintTextsSpec)) zintTextsUptoCard

/-- THE SECOND FORM's CARD OF 'cutwaterlaw02.ZintOrder'. -/
def zintOrderUptoCard : Claim7 := { stood := { row := zintOrderUptoRow, standIns := [], harness := (true, "1a2a3e94b87639bbb85e3504a5fd01ae03db5ddde827cef45b44657537a80138"), looks := false }, kinds := [], alts := [], laidByText := true, laidKinds := [.data, .pinned], laidTests := true, laidLooks := .later }
def ZintOrderUptoCardSaid : Prop := Claim7.holds Tryd.pinned (.plain (OpenSpec.upto zintOrderSpec)) zintOrderUptoCard

/-- THE SECOND FORM's CARD OF 'cutwaterlaw02.ZintDigits'. -/
def zintDigitsUptoCard : Claim7 := { stood := { row := zintDigitsUptoRow, standIns := [], harness := (true, "1a2a3e94b87639bbb85e3504a5fd01ae03db5ddde827cef45b44657537a80138"), looks := false }, kinds := [], alts := [], laidByText := true, laidKinds := [.data, .pinned], laidTests := true, laidLooks := .later }
def ZintDigitsUptoCardSaid : Prop := Claim7.holds Tryd.pinned (.plain (OpenSpec.upto zintDigitsSpec)) zintDigitsUptoCard
end Rows
end Go.Proofs.YtkonakjchimniaaDoor
