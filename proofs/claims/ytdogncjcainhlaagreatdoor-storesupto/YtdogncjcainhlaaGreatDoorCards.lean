/-
  DERIVED. GIVEN WITH THE SEED: THE CARDS: each row of YtdogncjcainhlaaGreatDoorRows.lean that lists a variable, with what it lists TIED to the program's text (the seventh form; the later family's looks); each row that meets fmt, with fmt's text TOLD by the authors' own Lean function (tested against real Go, not proved from fmt's source: count such statements apart). THE CARD IS WHAT COUNTS. Prove the row's statement (the work); the ties are given (YtdogncjcainhlaaGreatDoorTie.lean); close each card by the builder's one call (the guide's Derived/Test/ToyasCard.lean, 'card_holds'). Laid BY PROGRAM, IN A SANDBOX (cutbox-door.mjs). By AI agents, Wed Nov 11 2026. No macro, syntax, notation, axiom, sorry.
-/
import Derived.Test.YtdogncjcainhlaaGreatDoorRows
import GoSem.ClaimSeven
namespace Go.Proofs.YtdogncjcainhlaaGreatDoor
namespace Rows

/-- THE TIED CARD OF 'bywaykeep.Turned'. -/
def turnedCard : Claim7 := { stood := { row := turnedRow, standIns := [], harness := (true, "71dfd44c4b52b9375f5b73efcc5b015aec92a62af3b77155b208da5052d3bc74"), looks := false }, kinds := [], alts := [], laidByText := true, laidKinds := [.data, .pinned], laidTests := true, laidLooks := .later }
def TurnedCardSaid : Prop := Claim7.holds Tryz.pinned (.plain (OpenSpec.ofChange turnedSpec)) turnedCard

/-- THE TIED CARD OF 'bywaylaw.Stores'. -/
def storesCard : Claim7 := { stood := { row := storesRow, standIns := [], harness := (true, "71dfd44c4b52b9375f5b73efcc5b015aec92a62af3b77155b208da5052d3bc74"), looks := false }, kinds := [], alts := [], laidByText := true, laidKinds := [.data, .pinned], laidTests := true, laidLooks := .later }
def StoresCardSaid : Prop := Claim7.holds Tryz.pinned (.plain (OpenSpec.ofChange storesSpec)) storesCard

/-- THE TIED CARD OF 'bywaykeep.Kept'. -/
def keptCard : Claim7 := { stood := { row := keptRow, standIns := [], harness := (true, "71dfd44c4b52b9375f5b73efcc5b015aec92a62af3b77155b208da5052d3bc74"), looks := false }, kinds := [], alts := [], laidByText := true, laidKinds := [.data, .pinned], laidTests := true, laidLooks := .later }
def KeptCardSaid : Prop := Claim7.holds Tryz.pinned (.plain (OpenSpec.ofChange keptSpec)) keptCard

/-- THE TIED CARD OF 'bywaykeep.Paged'. -/
def pagedCard : Claim7 := { stood := { row := pagedRow, standIns := [], harness := (true, "71dfd44c4b52b9375f5b73efcc5b015aec92a62af3b77155b208da5052d3bc74"), looks := false }, kinds := [], alts := [], laidByText := true, laidKinds := [.data, .pinned], laidTests := true, laidLooks := .later }
def PagedCardSaid : Prop := Claim7.holds Tryz.pinned (.plain (OpenSpec.ofChange pagedSpec)) pagedCard

/-- THE SECOND FORM's CARD OF 'bywaykeep.Turned'. -/
def turnedUptoCard : Claim7 := { stood := { row := turnedUptoRow, standIns := [], harness := (true, "71dfd44c4b52b9375f5b73efcc5b015aec92a62af3b77155b208da5052d3bc74"), looks := false }, kinds := [], alts := [], laidByText := true, laidKinds := [.data, .pinned], laidTests := true, laidLooks := .later }
def TurnedUptoCardSaid : Prop := Claim7.holds Tryz.pinned (.plain (OpenSpec.upto turnedSpec)) turnedUptoCard

/-- THE SECOND FORM's CARD OF 'bywaylaw.Stores'. -/
def storesUptoCard : Claim7 := { stood := { row := storesUptoRow, standIns := [], harness := (true, "71dfd44c4b52b9375f5b73efcc5b015aec92a62af3b77155b208da5052d3bc74"), looks := false }, kinds := [], alts := [], laidByText := true, laidKinds := [.data, .pinned], laidTests := true, laidLooks := .later }
def StoresUptoCardSaid : Prop := Claim7.holds Tryz.pinned (.plain (OpenSpec.upto storesSpec)) storesUptoCard

/-- THE SECOND FORM's CARD OF 'bywaykeep.Kept'. -/
def keptUptoCard : Claim7 := { stood := { row := keptUptoRow, standIns := [], harness := (true, "71dfd44c4b52b9375f5b73efcc5b015aec92a62af3b77155b208da5052d3bc74"), looks := false }, kinds := [], alts := [], laidByText := true, laidKinds := [.data, .pinned], laidTests := true, laidLooks := .later }
def KeptUptoCardSaid : Prop := Claim7.holds Tryz.pinned (.plain (OpenSpec.upto keptSpec)) keptUptoCard

/-- THE SECOND FORM's CARD OF 'bywaykeep.Paged'. -/
def pagedUptoCard : Claim7 := { stood := { row := pagedUptoRow, standIns := [], harness := (true, "71dfd44c4b52b9375f5b73efcc5b015aec92a62af3b77155b208da5052d3bc74"), looks := false }, kinds := [], alts := [], laidByText := true, laidKinds := [.data, .pinned], laidTests := true, laidLooks := .later }
def PagedUptoCardSaid : Prop := Claim7.holds Tryz.pinned (.plain (OpenSpec.upto pagedSpec)) pagedUptoCard
end Rows
end Go.Proofs.YtdogncjcainhlaaGreatDoor
