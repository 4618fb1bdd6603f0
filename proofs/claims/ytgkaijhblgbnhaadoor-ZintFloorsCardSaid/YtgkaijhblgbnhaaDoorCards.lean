/-
  DERIVED. GIVEN WITH THE SEED: THE CARDS: each row of YtgkaijhblgbnhaaDoorRows.lean that lists a variable, with what it lists TIED to the program's text (the seventh form; the later family's looks); each row that meets fmt, with fmt's text TOLD by the authors' own Lean function (tested against real Go, not proved from fmt's source: count such statements apart). THE CARD IS WHAT COUNTS. Prove the row's statement (the work); the ties are given (YtgkaijhblgbnhaaDoorTie.lean); close each card by the builder's one call (the guide's Derived/Test/ToyasCard.lean, 'card_holds'). Laid BY PROGRAM, IN A SANDBOX (cutbox-door.mjs). By AI agents, Wed Nov 11 2026. No macro, syntax, notation, axiom, sorry.
-/
import Derived.Test.YtgkaijhblgbnhaaDoorRows
import GoSem.ClaimSeven
namespace Go.Proofs.YtgkaijhblgbnhaaDoor
namespace Rows

/-- THE TIED CARD OF 'cutwaterlaw02.ZintFloors'. -/
def zintFloorsCard : Claim7 := { stood := { row := zintFloorsRow, standIns := [], harness := (true, "edeadf44cc680057417f080e937470663be705963be7da6cdd77c9a95cdda256"), looks := false }, kinds := [], alts := [], laidByText := true, laidKinds := [.data, .pinned], laidTests := true, laidLooks := .later }
def ZintFloorsCardSaid : Prop := Claim7.holds Tryd.pinned (.plain (OpenSpec.ofChange zintFloorsSpec)) zintFloorsCard

/-- THE TIED CARD OF 'cutwaterlaw02.ZintRests'. -/
def zintRestsCard : Claim7 := { stood := { row := zintRestsRow, standIns := [], harness := (true, "edeadf44cc680057417f080e937470663be705963be7da6cdd77c9a95cdda256"), looks := false }, kinds := [], alts := [], laidByText := true, laidKinds := [.data, .pinned], laidTests := true, laidLooks := .later }
def ZintRestsCardSaid : Prop := Claim7.holds Tryd.pinned (.plain (OpenSpec.ofChange zintRestsSpec)) zintRestsCard

/-- THE TIED CARD OF 'cutwaterlaw02.ZintTexts'. -/
def zintTextsCard : Claim7 := { stood := { row := zintTextsRow, standIns := [], harness := (true, "edeadf44cc680057417f080e937470663be705963be7da6cdd77c9a95cdda256"), looks := false }, kinds := [], alts := [], laidByText := true, laidKinds := [.data, .pinned], laidTests := true, laidLooks := .later }
def ZintTextsCardSaid : Prop := Claim7.holds Tryd.pinned (.plain (OpenSpec.ofChange zintTextsSpec)) zintTextsCard

/-- THE TIED CARD OF 'cutwaterlaw02.ZintOrder'. -/
def zintOrderCard : Claim7 := { stood := { row := zintOrderRow, standIns := [], harness := (true, "edeadf44cc680057417f080e937470663be705963be7da6cdd77c9a95cdda256"), looks := false }, kinds := [], alts := [], laidByText := true, laidKinds := [.data, .pinned], laidTests := true, laidLooks := .later }
def ZintOrderCardSaid : Prop := Claim7.holds Tryd.pinned (.plain (OpenSpec.ofChange zintOrderSpec)) zintOrderCard

/-- THE SECOND FORM's CARD OF 'cutwaterlaw02.ZintFloors'. -/
def zintFloorsUptoCard : Claim7 := { stood := { row := zintFloorsUptoRow, standIns := [], harness := (true, "edeadf44cc680057417f080e937470663be705963be7da6cdd77c9a95cdda256"), looks := false }, kinds := [], alts := [], laidByText := true, laidKinds := [.data, .pinned], laidTests := true, laidLooks := .later }
def ZintFloorsUptoCardSaid : Prop := Claim7.holds Tryd.pinned (.plain (OpenSpec.upto zintFloorsSpec)) zintFloorsUptoCard

/-- THE SECOND FORM's CARD OF 'cutwaterlaw02.ZintRests'. -/
def zintRestsUptoCard : Claim7 := { stood := { row := zintRestsUptoRow, standIns := [], harness := (true, "edeadf44cc680057417f080e937470663be705963be7da6cdd77c9a95cdda256"), looks := false }, kinds := [], alts := [], laidByText := true, laidKinds := [.data, .pinned], laidTests := true, laidLooks := .later }
def ZintRestsUptoCardSaid : Prop := Claim7.holds Tryd.pinned (.plain (OpenSpec.upto zintRestsSpec)) zintRestsUptoCard

/-- THE SECOND FORM's CARD OF 'cutwaterlaw02.ZintTexts'. -/
def zintTextsUptoCard : Claim7 := { stood := { row := zintTextsUptoRow, standIns := [], harness := (true, "edeadf44cc680057417f080e937470663be705963be7da6cdd77c9a95cdda256"), looks := false }, kinds := [], alts := [], laidByText := true, laidKinds := [.data, .pinned], laidTests := true, laidLooks := .later }
def ZintTextsUptoCardSaid : Prop := Claim7.holds Tryd.pinned (.plain (OpenSpec.upto zintTextsSpec)) zintTextsUptoCard

/-- THE SECOND FORM's CARD OF 'cutwaterlaw02.ZintOrder'. -/
def zintOrderUptoCard : Claim7 := { stood := { row := zintOrderUptoRow, standIns := [], harness := (true, "edeadf44cc680057417f080e937470663be705963be7da6cdd77c9a95cdda256"), looks := false }, kinds := [], alts := [], laidByText := true, laidKinds := [.data, .pinned], laidTests := true, laidLooks := .later }
def ZintOrderUptoCardSaid : Prop := Claim7.holds Tryd.pinned (.plain (OpenSpec.upto zintOrderSpec)) zintOrderUptoCard
end Rows
end Go.Proofs.YtgkaijhblgbnhaaDoor
