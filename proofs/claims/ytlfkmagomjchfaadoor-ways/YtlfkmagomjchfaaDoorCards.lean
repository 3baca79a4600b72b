/-
  DERIVED. GIVEN WITH THE SEED: THE CARDS: each row of YtlfkmagomjchfaaDoorRows.lean that lists a variable, with what it lists TIED to the program's text (the seventh form; the later family's looks); each row that meets fmt, with fmt's text TOLD by the authors' own Lean function (tested against real Go, not proved from fmt's source: count such statements apart). THE CARD IS WHAT COUNTS. Prove the row's statement (the work); the ties are given (YtlfkmagomjchfaaDoorTie.lean); close each card by the builder's one call (the guide's Derived/Test/ToyasCard.lean, 'card_holds'). Laid BY PROGRAM, IN A SANDBOX (cutbox-door.mjs). By AI agents, Wed Nov 11 2026. No macro, syntax, notation, axiom, sorry.
-/
import Derived.Test.YtlfkmagomjchfaaDoorRows
import GoSem.ClaimSeven
namespace Go.Proofs.YtlfkmagomjchfaaDoor
namespace Rows

/-- THE TIED CARD OF 'bywaylaw.Routed'. -/
def routedCard : Claim7 := { stood := { row := routedRow, standIns := [], harness := (true, "5a3fe7e828ae91c66defba90d7d2e33fa21dbe4aa4ab5fe3b6a5dd8357c4bc98"), looks := false }, kinds := [], alts := [], laidByText := true, laidKinds := [.data, .pinned], laidTests := true, laidLooks := .later }
def RoutedCardSaid : Prop := Claim7.holds Tryd.pinned (.plain (OpenSpec.ofChange routedSpec)) routedCard

/-- THE TIED CARD OF 'bywaykeep.Ways'. -/
def waysCard : Claim7 := { stood := { row := waysRow, standIns := [], harness := (true, "5a3fe7e828ae91c66defba90d7d2e33fa21dbe4aa4ab5fe3b6a5dd8357c4bc98"), looks := false }, kinds := [], alts := [], laidByText := true, laidKinds := [.data, .pinned], laidTests := true, laidLooks := .later }
def WaysCardSaid : Prop := Claim7.holds Tryd.pinned (.plain (OpenSpec.ofChange waysSpec)) waysCard

/-- THE TIED CARD OF 'bywaykeep.First'. -/
def firstCard : Claim7 := { stood := { row := firstRow, standIns := [], harness := (true, "5a3fe7e828ae91c66defba90d7d2e33fa21dbe4aa4ab5fe3b6a5dd8357c4bc98"), looks := false }, kinds := [], alts := [], laidByText := true, laidKinds := [.data, .pinned], laidTests := true, laidLooks := .later }
def FirstCardSaid : Prop := Claim7.holds Tryd.pinned (.plain (OpenSpec.ofChange firstSpec)) firstCard

/-- THE TIED CARD OF 'bywaylaw.Labelled'. -/
def labelledCard : Claim7 := { stood := { row := labelledRow, standIns := [], harness := (true, "5a3fe7e828ae91c66defba90d7d2e33fa21dbe4aa4ab5fe3b6a5dd8357c4bc98"), looks := false }, kinds := [], alts := [], laidByText := true, laidKinds := [.data, .pinned], laidTests := true, laidLooks := .later }
def LabelledCardSaid : Prop := Claim7.holds Tryd.pinned (.plain (OpenSpec.ofChange labelledSpec)) labelledCard

/-- THE TIED CARD OF 'bywaykeep.Covered'. -/
def coveredCard : Claim7 := { stood := { row := coveredRow, standIns := [], harness := (true, "5a3fe7e828ae91c66defba90d7d2e33fa21dbe4aa4ab5fe3b6a5dd8357c4bc98"), looks := false }, kinds := [], alts := [], laidByText := true, laidKinds := [.data, .pinned], laidTests := true, laidLooks := .later }
def CoveredCardSaid : Prop := Claim7.holds Tryd.pinned (.plain (OpenSpec.ofChange coveredSpec)) coveredCard

/-- THE SECOND FORM's CARD OF 'bywaylaw.Routed'. -/
def routedUptoCard : Claim7 := { stood := { row := routedUptoRow, standIns := [], harness := (true, "5a3fe7e828ae91c66defba90d7d2e33fa21dbe4aa4ab5fe3b6a5dd8357c4bc98"), looks := false }, kinds := [], alts := [], laidByText := true, laidKinds := [.data, .pinned], laidTests := true, laidLooks := .later }
def RoutedUptoCardSaid : Prop := Claim7.holds Tryd.pinned (.plain (OpenSpec.upto routedSpec)) routedUptoCard

/-- THE SECOND FORM's CARD OF 'bywaykeep.Ways'. -/
def waysUptoCard : Claim7 := { stood := { row := waysUptoRow, standIns := [], harness := (true, "5a3fe7e828ae91c66defba90d7d2e33fa21dbe4aa4ab5fe3b6a5dd8357c4bc98"), looks := false }, kinds := [], alts := [], laidByText := true, laidKinds := [.data, .pinned], laidTests := true, laidLooks := .later }
def WaysUptoCardSaid : Prop := Claim7.holds Tryd.pinned (.plain (OpenSpec.upto waysSpec)) waysUptoCard

/-- THE SECOND FORM's CARD OF 'bywaykeep.First'. -/
def firstUptoCard : Claim7 := { stood := { row := firstUptoRow, standIns := [], harness := (true, "5a3fe7e828ae91c66defba90d7d2e33fa21dbe4aa4ab5fe3b6a5dd8357c4bc98"), looks := false }, kinds := [], alts := [], laidByText := true, laidKinds := [.data, .pinned], laidTests := true, laidLooks := .later }
def FirstUptoCardSaid : Prop := Claim7.holds Tryd.pinned (.plain (OpenSpec.upto firstSpec)) firstUptoCard

/-- THE SECOND FORM's CARD OF 'bywaylaw.Labelled'. -/
def labelledUptoCard : Claim7 := { stood := { row := labelledUptoRow, standIns := [], harness := (true, "5a3fe7e828ae91c66defba90d7d2e33fa21dbe4aa4ab5fe3b6a5dd8357c4bc98"), looks := false }, kinds := [], alts := [], laidByText := true, laidKinds := [.data, .pinned], laidTests := true, laidLooks := .later }
def LabelledUptoCardSaid : Prop := Claim7.holds Tryd.pinned (.plain (OpenSpec.upto labelledSpec)) labelledUptoCard

/-- THE SECOND FORM's CARD OF 'bywaykeep.Covered'. -/
def coveredUptoCard : Claim7 := { stood := { row := coveredUptoRow, standIns := [], harness := (true, "5a3fe7e828ae91c66defba90d7d2e33fa21dbe4aa4ab5fe3b6a5dd8357c4bc98"), looks := false }, kinds := [], alts := [], laidByText := true, laidKinds := [.data, .pinned], laidTests := true, laidLooks := .later }
def CoveredUptoCardSaid : Prop := Claim7.holds Tryd.pinned (.plain (OpenSpec.upto coveredSpec)) coveredUptoCard
end Rows
end Go.Proofs.YtlfkmagomjchfaaDoor
