/-
  DERIVED. GIVEN WITH THE SEED: THE CARDS: each row of YtpeopcafafonkaaDoorRows.lean that lists a variable, with what it lists TIED to the program's text (the seventh form; the later family's looks); each row that meets fmt, with fmt's text TOLD by the authors' own Lean function (tested against real Go, not proved from fmt's source: count such statements apart). THE CARD IS WHAT COUNTS. Prove the row's statement (the work); the ties are given (YtpeopcafafonkaaDoorTie.lean); close each card by the builder's one call (the guide's Derived/Test/ToyasCard.lean, 'card_holds'). Laid BY PROGRAM, IN A SANDBOX (cutbox-door.mjs). By AI agents, Wed Nov 11 2026. No macro, syntax, notation, axiom, sorry.
-/
import Derived.Test.YtpeopcafafonkaaDoorRows
import GoSem.ClaimSeven
namespace Go.Proofs.YtpeopcafafonkaaDoor
namespace Rows

/-- THE TIED CARD OF 'cutwaterlaw01.NatNames'. -/
def natNamesCard : Claim7 := { stood := { row := natNamesRow, standIns := [], harness := (true, "5e0001acb60a03b4bef5c0adb3b0c38c66ba74b884270e9bba7f0fea1cb91681"), looks := false }, kinds := [], alts := [], laidByText := true, laidKinds := [.data, .pinned], laidTests := true, laidLooks := .later }
def NatNamesCardSaid : Prop := Claim7.holds Tryd.pinned (.plain (OpenSpec.ofChange natNamesSpec)) natNamesCard

/-- THE TIED CARD OF 'cutwaterlaw01.NatSums'. -/
def natSumsCard : Claim7 := { stood := { row := natSumsRow, standIns := [], harness := (true, "5e0001acb60a03b4bef5c0adb3b0c38c66ba74b884270e9bba7f0fea1cb91681"), looks := false }, kinds := [], alts := [], laidByText := true, laidKinds := [.data, .pinned], laidTests := true, laidLooks := .later }
def NatSumsCardSaid : Prop := Claim7.holds Tryd.pinned (.plain (OpenSpec.ofChange natSumsSpec)) natSumsCard

/-- THE TIED CARD OF 'cutwaterlaw01.NatProducts'. -/
def natProductsCard : Claim7 := { stood := { row := natProductsRow, standIns := [], harness := (true, "5e0001acb60a03b4bef5c0adb3b0c38c66ba74b884270e9bba7f0fea1cb91681"), looks := false }, kinds := [], alts := [], laidByText := true, laidKinds := [.data, .pinned], laidTests := true, laidLooks := .later }
def NatProductsCardSaid : Prop := Claim7.holds Tryd.pinned (.plain (OpenSpec.ofChange natProductsSpec)) natProductsCard

/-- THE TIED CARD OF 'cutwaterlaw01.NatQuotients'. -/
def natQuotientsCard : Claim7 := { stood := { row := natQuotientsRow, standIns := [], harness := (true, "5e0001acb60a03b4bef5c0adb3b0c38c66ba74b884270e9bba7f0fea1cb91681"), looks := false }, kinds := [], alts := [], laidByText := true, laidKinds := [.data, .pinned], laidTests := true, laidLooks := .later }
def NatQuotientsCardSaid : Prop := Claim7.holds Tryd.pinned (.plain (OpenSpec.ofChange natQuotientsSpec)) natQuotientsCard

/-- THE TIED CARD OF 'cutwaterlaw01.NatBack'. -/
def natBackCard : Claim7 := { stood := { row := natBackRow, standIns := [], harness := (true, "5e0001acb60a03b4bef5c0adb3b0c38c66ba74b884270e9bba7f0fea1cb91681"), looks := false }, kinds := [], alts := [], laidByText := true, laidKinds := [.data, .pinned], laidTests := true, laidLooks := .later }
def NatBackCardSaid : Prop := Claim7.holds Tryd.pinned (.plain (OpenSpec.ofChange natBackSpec)) natBackCard

/-- THE TIED CARD OF 'cutwaterlaw01.NatRings'. -/
def natRingsCard : Claim7 := { stood := { row := natRingsRow, standIns := [], harness := (true, "5e0001acb60a03b4bef5c0adb3b0c38c66ba74b884270e9bba7f0fea1cb91681"), looks := false }, kinds := [], alts := [], laidByText := true, laidKinds := [.data, .pinned], laidTests := true, laidLooks := .later }
def NatRingsCardSaid : Prop := Claim7.holds Tryd.pinned (.plain (OpenSpec.ofChange natRingsSpec)) natRingsCard

/-- THE TIED CARD OF 'cutwaterlaw01.NatShifts'. -/
def natShiftsCard : Claim7 := { stood := { row := natShiftsRow, standIns := [], harness := (true, "5e0001acb60a03b4bef5c0adb3b0c38c66ba74b884270e9bba7f0fea1cb91681"), looks := false }, kinds := [], alts := [], laidByText := true, laidKinds := [.data, .pinned], laidTests := true, laidLooks := .later }
def NatShiftsCardSaid : Prop := Claim7.holds Tryd.pinned (.plain (OpenSpec.ofChange natShiftsSpec)) natShiftsCard

/-- THE TIED CARD OF 'cutwaterlaw01.NatTexts'. -/
def natTextsCard : Claim7 := { stood := { row := natTextsRow, standIns := [], harness := (true, "5e0001acb60a03b4bef5c0adb3b0c38c66ba74b884270e9bba7f0fea1cb91681"), looks := false }, kinds := [], alts := [], laidByText := true, laidKinds := [.data, .pinned], laidTests := true, laidLooks := .later }
def NatTextsCardSaid : Prop := Claim7.holds Tryd.pinned (.plain (OpenSpec.ofChange natTextsSpec)) natTextsCard

/-- THE TIED CARD OF 'cutwaterlaw01.NatDigits'. -/
def natDigitsCard : Claim7 := { stood := { row := natDigitsRow, standIns := [], harness := (true, "5e0001acb60a03b4bef5c0adb3b0c38c66ba74b884270e9bba7f0fea1cb91681"), looks := false }, kinds := [], alts := [], laidByText := true, laidKinds := [.data, .pinned], laidTests := true, laidLooks := .later }
def NatDigitsCardSaid : Prop := Claim7.holds Tryd.pinned (.plain (OpenSpec.ofChange natDigitsSpec)) natDigitsCard

/-- THE TIED CARD OF 'cutwaterlaw01.NatHalves'. -/
def natHalvesCard : Claim7 := { stood := { row := natHalvesRow, standIns := [], harness := (true, "5e0001acb60a03b4bef5c0adb3b0c38c66ba74b884270e9bba7f0fea1cb91681"), looks := false }, kinds := [], alts := [], laidByText := true, laidKinds := [.data, .pinned], laidTests := true, laidLooks := .later }
def NatHalvesCardSaid : Prop := Claim7.holds Tryd.pinned (.plain (OpenSpec.ofChange natHalvesSpec)) natHalvesCard

/-- THE TIED CARD OF 'cutwaterlaw01.NatGcds'. -/
def natGcdsCard : Claim7 := { stood := { row := natGcdsRow, standIns := [], harness := (true, "5e0001acb60a03b4bef5c0adb3b0c38c66ba74b884270e9bba7f0fea1cb91681"), looks := false }, kinds := [], alts := [], laidByText := true, laidKinds := [.data, .pinned], laidTests := true, laidLooks := .later }
def NatGcdsCardSaid : Prop := Claim7.holds Tryd.pinned (.plain (OpenSpec.ofChange natGcdsSpec)) natGcdsCard

/-- THE TIED CARD OF 'cutwaterlaw01.NatSquares'. -/
def natSquaresCard : Claim7 := { stood := { row := natSquaresRow, standIns := [], harness := (true, "5e0001acb60a03b4bef5c0adb3b0c38c66ba74b884270e9bba7f0fea1cb91681"), looks := false }, kinds := [], alts := [], laidByText := true, laidKinds := [.data, .pinned], laidTests := true, laidLooks := .later }
def NatSquaresCardSaid : Prop := Claim7.holds Tryd.pinned (.plain (OpenSpec.ofChange natSquaresSpec)) natSquaresCard

/-- THE TIED CARD OF 'cutwaterlaw02.ZintFloors'. -/
def zintFloorsCard : Claim7 := { stood := { row := zintFloorsRow, standIns := [], harness := (true, "5e0001acb60a03b4bef5c0adb3b0c38c66ba74b884270e9bba7f0fea1cb91681"), looks := false }, kinds := [], alts := [], laidByText := true, laidKinds := [.data, .pinned], laidTests := true, laidLooks := .later }
def ZintFloorsCardSaid : Prop := Claim7.holds Tryd.pinned (.plain (OpenSpec.ofChange zintFloorsSpec)) zintFloorsCard

/-- THE TIED CARD OF 'cutwaterlaw02.ZintRests'. -/
def zintRestsCard : Claim7 := { stood := { row := zintRestsRow, standIns := [], harness := (true, "5e0001acb60a03b4bef5c0adb3b0c38c66ba74b884270e9bba7f0fea1cb91681"), looks := false }, kinds := [], alts := [], laidByText := true, laidKinds := [.data, .pinned], laidTests := true, laidLooks := .later }
def ZintRestsCardSaid : Prop := Claim7.holds Tryd.pinned (.plain (OpenSpec.ofChange zintRestsSpec)) zintRestsCard

/-- THE TIED CARD OF 'cutwaterlaw02.ZintSmall'. -/
def zintSmallCard : Claim7 := { stood := { row := zintSmallRow, standIns := [], harness := (true, "5e0001acb60a03b4bef5c0adb3b0c38c66ba74b884270e9bba7f0fea1cb91681"), looks := false }, kinds := [], alts := [], laidByText := true, laidKinds := [.data, .pinned], laidTests := true, laidLooks := .later }
def ZintSmallCardSaid : Prop := Claim7.holds Tryd.pinned (.plain (OpenSpec.ofChange zintSmallSpec)) zintSmallCard

/-- THE TIED CARD OF 'cutwaterlaw02.ZintTexts'. -/
def zintTextsCard : Claim7 := { stood := { row := zintTextsRow, standIns := [], harness := (true, "5e0001acb60a03b4bef5c0adb3b0c38c66ba74b884270e9bba7f0fea1cb91681"), looks := false }, kinds := [], alts := [], laidByText := true, laidKinds := [.data, .pinned], laidTests := true, laidLooks := .later }
def ZintTextsCardSaid : Prop := Claim7.holds Tryd.pinned (.plain (OpenSpec.ofChange zintTextsSpec)) zintTextsCard

/-- THE TIED CARD OF 'cutwaterlaw02.ZintOrder'. -/
def zintOrderCard : Claim7 := { stood := { row := zintOrderRow, standIns := [], harness := (true, "5e0001acb60a03b4bef5c0adb3b0c38c66ba74b884270e9bba7f0fea1cb91681"), looks := false }, kinds := [], alts := [], laidByText := true, laidKinds := [.data, .pinned], laidTests := true, laidLooks := .later }
def ZintOrderCardSaid : Prop := Claim7.holds Tryd.pinned (.plain (OpenSpec.ofChange zintOrderSpec)) zintOrderCard

/-- THE TIED CARD OF 'cutwaterlaw02.ZintDigits'. -/
def zintDigitsCard : Claim7 := { stood := { row := zintDigitsRow, standIns := [], harness := (true, "5e0001acb60a03b4bef5c0adb3b0c38c66ba74b884270e9bba7f0fea1cb91681"), looks := false }, kinds := [], alts := [], laidByText := true, laidKinds := [.data, .pinned], laidTests := true, laidLooks := .later }
def ZintDigitsCardSaid : Prop := Claim7.holds Tryd.pinned (.plain (OpenSpec.ofChange zintDigitsSpec)) zintDigitsCard

/-- THE SECOND FORM's CARD OF 'cutwaterlaw01.NatNames'. -/
def natNamesUptoCard : Claim7 := { stood := { row := natNamesUptoRow, standIns := [], harness := (true, "5e0001acb60a03b4bef5c0adb3b0c38c66ba74b884270e9bba7f0fea1cb91681"), looks := false }, kinds := [], alts := [], laidByText := true, laidKinds := [.data, .pinned], laidTests := true, laidLooks := .later }
def NatNamesUptoCardSaid : Prop := Claim7.holds Tryd.pinned (.plain (OpenSpec.upto natNamesSpec)) natNamesUptoCard

/-- THE SECOND FORM's CARD OF 'cutwaterlaw01.NatSums'. -/
def natSumsUptoCard : Claim7 := { stood := { row := natSumsUptoRow, standIns := [], harness := (true, "5e0001acb60a03b4bef5c0adb3b0c38c66ba74b884270e9bba7f0fea1cb91681"), looks := false }, kinds := [], alts := [], laidByText := true, laidKinds := [.data, .pinned], laidTests := true, laidLooks := .later }
def NatSumsUptoCardSaid : Prop := Claim7.holds Tryd.pinned (.plain (OpenSpec.upto natSumsSpec)) natSumsUptoCard

/-- THE SECOND FORM's CARD OF 'cutwaterlaw01.NatProducts'. -/
def natProductsUptoCard : Claim7 := { stood := { row := natProductsUptoRow, standIns := [], harness := (true, "5e0001acb60a03b4bef5c0adb3b0c38c66ba74b884270e9bba7f0fea1cb91681"), looks := false }, kinds := [], alts := [], laidByText := true, laidKinds := [.data, .pinned], laidTests := true, laidLooks := .later }
def NatProductsUptoCardSaid : Prop := Claim7.holds Tryd.pinned (.plain (OpenSpec.upto natProductsSpec)) natProductsUptoCard

/-- THE SECOND FORM's CARD OF 'cutwaterlaw01.NatQuotients'. -/
def natQuotientsUptoCard : Claim7 := { stood := { row := natQuotientsUptoRow, standIns := [], harness := (true, "5e0001acb60a03b4bef5c0adb3b0c38c66ba74b884270e9bba7f0fea1cb91681"), looks := false }, kinds := [], alts := [], laidByText := true, laidKinds := [.data, .pinned], laidTests := true, laidLooks := .later }
def NatQuotientsUptoCardSaid : Prop := Claim7.holds Tryd.pinned (.plain (OpenSpec.upto natQuotientsSpec)) natQuotientsUptoCard

/-- THE SECOND FORM's CARD OF 'cutwaterlaw01.NatBack'. -/
def natBackUptoCard : Claim7 := { stood := { row := natBackUptoRow, standIns := [], harness := (true, "5e0001acb60a03b4bef5c0adb3b0c38c66ba74b884270e9bba7f0fea1cb91681"), looks := false }, kinds := [], alts := [], laidByText := true, laidKinds := [.data, .pinned], laidTests := true, laidLooks := .later }
def NatBackUptoCardSaid : Prop := Claim7.holds Tryd.pinned (.plain (OpenSpec.upto natBackSpec)) natBackUptoCard

/-- THE SECOND FORM's CARD OF 'cutwaterlaw01.NatRings'. -/
def natRingsUptoCard : Claim7 := { stood := { row := natRingsUptoRow, standIns := [], harness := (true, "5e0001acb60a03b4bef5c0adb3b0c38c66ba74b884270e9bba7f0fea1cb91681"), looks := false }, kinds := [], alts := [], laidByText := true, laidKinds := [.data, .pinned], laidTests := true, laidLooks := .later }
def NatRingsUptoCardSaid : Prop := Claim7.holds Tryd.pinned (.plain (OpenSpec.upto natRingsSpec)) natRingsUptoCard

/-- THE SECOND FORM's CARD OF 'cutwaterlaw01.NatShifts'. -/
def natShiftsUptoCard : Claim7 := { stood := { row := natShiftsUptoRow, standIns := [], harness := (true, "5e0001acb60a03b4bef5c0adb3b0c38c66ba74b884270e9bba7f0fea1cb91681"), looks := false }, kinds := [], alts := [], laidByText := true, laidKinds := [.data, .pinned], laidTests := true, laidLooks := .later }
def NatShiftsUptoCardSaid : Prop := Claim7.holds Tryd.pinned (.plain (OpenSpec.upto natShiftsSpec)) natShiftsUptoCard

/-- THE SECOND FORM's CARD OF 'cutwaterlaw01.NatTexts'. -/
def natTextsUptoCard : Claim7 := { stood := { row := natTextsUptoRow, standIns := [], harness := (true, "5e0001acb60a03b4bef5c0adb3b0c38c66ba74b884270e9bba7f0fea1cb91681"), looks := false }, kinds := [], alts := [], laidByText := true, laidKinds := [.data, .pinned], laidTests := true, laidLooks := .later }
def NatTextsUptoCardSaid : Prop := Claim7.holds Tryd.pinned (.plain (OpenSpec.upto natTextsSpec)) natTextsUptoCard

/-- THE SECOND FORM's CARD OF 'cutwaterlaw01.NatDigits'. -/
def natDigitsUptoCard : Claim7 := { stood := { row := natDigitsUptoRow, standIns := [], harness := (true, "5e0001acb60a03b4bef5c0adb3b0c38c66ba74b884270e9bba7f0fea1cb91681"), looks := false }, kinds := [], alts := [], laidByText := true, laidKinds := [.data, .pinned], laidTests := true, laidLooks := .later }
def NatDigitsUptoCardSaid : Prop := Claim7.holds Tryd.pinned (.plain (OpenSpec.upto natDigitsSpec)) natDigitsUptoCard

/-- THE SECOND FORM's CARD OF 'cutwaterlaw01.NatHalves'. -/
def natHalvesUptoCard : Claim7 := { stood := { row := natHalvesUptoRow, standIns := [], harness := (true, "5e0001acb60a03b4bef5c0adb3b0c38c66ba74b884270e9bba7f0fea1cb91681"), looks := false }, kinds := [], alts := [], laidByText := true, laidKinds := [.data, .pinned], laidTests := true, laidLooks := .later }
def NatHalvesUptoCardSaid : Prop := Claim7.holds Tryd.pinned (.plain (OpenSpec.upto natHalvesSpec)) natHalvesUptoCard

/-- THE SECOND FORM's CARD OF 'cutwaterlaw01.NatGcds'. -/
def natGcdsUptoCard : Claim7 := { stood := { row := natGcdsUptoRow, standIns := [], harness := (true, "5e0001acb60a03b4bef5c0adb3b0c38c66ba74b884270e9bba7f0fea1cb91681"), looks := false }, kinds := [], alts := [], laidByText := true, laidKinds := [.data, .pinned], laidTests := true, laidLooks := .later }
def NatGcdsUptoCardSaid : Prop := Claim7.holds Tryd.pinned (.plain (OpenSpec.upto natGcdsSpec)) natGcdsUptoCard

/-- THE SECOND FORM's CARD OF 'cutwaterlaw01.NatSquares'. -/
def natSquaresUptoCard : Claim7 := { stood := { row := natSquaresUptoRow, standIns := [], harness := (true, "5e0001acb60a03b4bef5c0adb3b0c38c66ba74b884270e9bba7f0fea1cb91681"), looks := false }, kinds := [], alts := [], laidByText := true, laidKinds := [.data, .pinned], laidTests := true, laidLooks := .later }
def NatSquaresUptoCardSaid : Prop := Claim7.holds Tryd.pinned (.plain (OpenSpec.upto natSquaresSpec)) natSquaresUptoCard

/-- THE SECOND FORM's CARD OF 'cutwaterlaw02.ZintFloors'. -/
def zintFloorsUptoCard : Claim7 := { stood := { row := zintFloorsUptoRow, standIns := [], harness := (true, "5e0001acb60a03b4bef5c0adb3b0c38c66ba74b884270e9bba7f0fea1cb91681"), looks := false }, kinds := [], alts := [], laidByText := true, laidKinds := [.data, .pinned], laidTests := true, laidLooks := .later }
def ZintFloorsUptoCardSaid : Prop := Claim7.holds Tryd.pinned (.plain (OpenSpec.upto zintFloorsSpec)) zintFloorsUptoCard

/-- THE SECOND FORM's CARD OF 'cutwaterlaw02.ZintRests'. -/
def zintRestsUptoCard : Claim7 := { stood := { row := zintRestsUptoRow, standIns := [], harness := (true, "5e0001acb60a03b4bef5c0adb3b0c38c66ba74b884270e9bba7f0fea1cb91681"), looks := false }, kinds := [], alts := [], laidByText := true, laidKinds := [.data, .pinned], laidTests := true, laidLooks := .later }
def ZintRestsUptoCardSaid : Prop := Claim7.holds Tryd.pinned (.plain (OpenSpec.upto zintRestsSpec)) zintRestsUptoCard

/-- THE SECOND FORM's CARD OF 'cutwaterlaw02.ZintSmall'. -/
def zintSmallUptoCard : Claim7 := { stood := { row := zintSmallUptoRow, standIns := [], harness := (true, "5e0001acb60a03b4bef5c0adb3b0c38c66ba74b884270e9bba7f0fea1cb91681"), looks := false }, kinds := [], alts := [], laidByText := true, laidKinds := [.data, .pinned], laidTests := true, laidLooks := .later }
def ZintSmallUptoCardSaid : Prop := Claim7.holds Tryd.pinned (.plain (OpenSpec.upto zintSmallSpec)) zintSmallUptoCard

/-- THE SECOND FORM's CARD OF 'cutwaterlaw02.ZintTexts'. -/
def zintTextsUptoCard : Claim7 := { stood := { row := zintTextsUptoRow, standIns := [], harness := (true, "5e0001acb60a03b4bef5c0adb3b0c38c66ba74b884270e9bba7f0fea1cb91681"), looks := false }, kinds := [], alts := [], laidByText := true, laidKinds := [.data, .pinned], laidTests := true, laidLooks := .later }
def ZintTextsUptoCardSaid : Prop := Claim7.holds Tryd.pinned (.plain (OpenSpec.upto zintTextsSpec)) zintTextsUptoCard

/-- THE SECOND FORM's CARD OF 'cutwaterlaw02.ZintOrder'. -/
def zintOrderUptoCard : Claim7 := { stood := { row := zintOrderUptoRow, standIns := [], harness := (true, "5e0001acb60a03b4bef5c0adb3b0c38c66ba74b884270e9bba7f0fea1cb91681"), looks := false }, kinds := [], alts := [], laidByText := true, laidKinds := [.data, .pinned], laidTests := true, laidLooks := .later }
def ZintOrderUptoCardSaid : Prop := Claim7.holds Tryd.pinned (.plain (OpenSpec.upto zintOrderSpec)) zintOrderUptoCard

/-- THE SECOND FORM's CARD OF 'cutwaterlaw02.ZintDigits'. -/
def zintDigitsUptoCard : Claim7 := { stood := { row := zintDigitsUptoRow, standIns := [], harness := (true, "5e0001acb60a03b4bef5c0adb3b0c38c66ba74b884270e9bba7f0fea1cb91681"), looks := false }, kinds := [], alts := [], laidByText := true, laidKinds := [.data, .pinned], laidTests := true, laidLooks := .later }
def ZintDigitsUptoCardSaid : Prop := Claim7.holds Tryd.pinned (.plain (OpenSpec.upto zintDigitsSpec)) zintDigitsUptoCard
end Rows
end Go.Proofs.YtpeopcafafonkaaDoor
