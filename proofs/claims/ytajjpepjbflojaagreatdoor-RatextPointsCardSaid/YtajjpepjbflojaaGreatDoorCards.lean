/-
  DERIVED. GIVEN WITH THE SEED: THE CARDS: each row of YtajjpepjbflojaaGreatDoorRows.lean that lists a variable, with what it lists TIED to the program's text (the seventh form; the later family's looks); each row that meets fmt, with fmt's text TOLD by the authors' own Lean function (tested against real Go, not proved from fmt's source: count such statements apart). THE CARD IS WHAT COUNTS. Prove the row's statement (the work); the ties are given (YtajjpepjbflojaaGreatDoorTie.lean); close each card by the builder's one call (the guide's Derived/Test/ToyasCard.lean, 'card_holds'). Laid BY PROGRAM, IN A SANDBOX (cutbox-door.mjs). By AI agents, Wed Nov 11 2026. No macro, syntax, notation, axiom, sorry.
-/
import Derived.Test.YtajjpepjbflojaaGreatDoorRows
import GoSem.ClaimSeven
namespace Go.Proofs.YtajjpepjbflojaaGreatDoor
namespace Rows

/-- THE TIED CARD OF 'cutwaterlaw04.RatextShows'. -/
def ratextShowsCard : Claim7 := { stood := { row := ratextShowsRow, standIns := [], harness := (true, "2b0cb1361277c33d9d1a020dbad25e0c14c4a482cf50ba331149b1ee5bd9eb8a"), looks := true }, kinds := [], alts := [], laidByText := true, laidKinds := [.data, .data, .data, .data, .sentinel, .sentinel, .pinned], laidTests := true, laidLooks := .later }
def RatextShowsCardSaid : Prop := Claim7.holds Tryz.pinned (.plain (OpenSpec.ofChange ratextShowsSpec)) ratextShowsCard

/-- THE TIED CARD OF 'cutwaterlaw04.RatextThere'. -/
def ratextThereCard : Claim7 := { stood := { row := ratextThereRow, standIns := [], harness := (true, "2b0cb1361277c33d9d1a020dbad25e0c14c4a482cf50ba331149b1ee5bd9eb8a"), looks := true }, kinds := [], alts := [], laidByText := true, laidKinds := [.data, .data, .data, .data, .sentinel, .sentinel, .pinned], laidTests := true, laidLooks := .later }
def RatextThereCardSaid : Prop := Claim7.holds Tryz.pinned (.plain (OpenSpec.ofChange ratextThereSpec)) ratextThereCard

/-- THE TIED CARD OF 'cutwaterlaw04.RatextPoints'. -/
def ratextPointsCard : Claim7 := { stood := { row := ratextPointsRow, standIns := [], harness := (true, "2b0cb1361277c33d9d1a020dbad25e0c14c4a482cf50ba331149b1ee5bd9eb8a"), looks := true }, kinds := [], alts := [], laidByText := true, laidKinds := [.data, .data, .data, .data, .sentinel, .sentinel, .pinned], laidTests := true, laidLooks := .later }
def RatextPointsCardSaid : Prop := Claim7.holds Tryz.pinned (.plain (OpenSpec.ofChange ratextPointsSpec)) ratextPointsCard

/-- THE SECOND FORM's CARD OF 'cutwaterlaw04.RatextShows'. -/
def ratextShowsUptoCard : Claim7 := { stood := { row := ratextShowsUptoRow, standIns := [], harness := (true, "2b0cb1361277c33d9d1a020dbad25e0c14c4a482cf50ba331149b1ee5bd9eb8a"), looks := true }, kinds := [], alts := [], laidByText := true, laidKinds := [.data, .data, .data, .data, .sentinel, .sentinel, .pinned], laidTests := true, laidLooks := .later }
def RatextShowsUptoCardSaid : Prop := Claim7.holds Tryz.pinned (.plain (OpenSpec.upto ratextShowsSpec)) ratextShowsUptoCard

/-- THE SECOND FORM's CARD OF 'cutwaterlaw04.RatextThere'. -/
def ratextThereUptoCard : Claim7 := { stood := { row := ratextThereUptoRow, standIns := [], harness := (true, "2b0cb1361277c33d9d1a020dbad25e0c14c4a482cf50ba331149b1ee5bd9eb8a"), looks := true }, kinds := [], alts := [], laidByText := true, laidKinds := [.data, .data, .data, .data, .sentinel, .sentinel, .pinned], laidTests := true, laidLooks := .later }
def RatextThereUptoCardSaid : Prop := Claim7.holds Tryz.pinned (.plain (OpenSpec.upto ratextThereSpec)) ratextThereUptoCard

/-- THE SECOND FORM's CARD OF 'cutwaterlaw04.RatextPoints'. -/
def ratextPointsUptoCard : Claim7 := { stood := { row := ratextPointsUptoRow, standIns := [], harness := (true, "2b0cb1361277c33d9d1a020dbad25e0c14c4a482cf50ba331149b1ee5bd9eb8a"), looks := true }, kinds := [], alts := [], laidByText := true, laidKinds := [.data, .data, .data, .data, .sentinel, .sentinel, .pinned], laidTests := true, laidLooks := .later }
def RatextPointsUptoCardSaid : Prop := Claim7.holds Tryz.pinned (.plain (OpenSpec.upto ratextPointsSpec)) ratextPointsUptoCard
end Rows
end Go.Proofs.YtajjpepjbflojaaGreatDoor
