/-
  DERIVED. GIVEN WITH THE SEED: THE CARDS: each row of YtdogncjcainhlaaDoorRows.lean that lists a variable, with what it lists TIED to the program's text (the seventh form; the later family's looks); each row that meets fmt, with fmt's text TOLD by the authors' own Lean function (tested against real Go, not proved from fmt's source: count such statements apart). THE CARD IS WHAT COUNTS. Prove the row's statement (the work); the ties are given (YtdogncjcainhlaaDoorTie.lean); close each card by the builder's one call (the guide's Derived/Test/ToyasCard.lean, 'card_holds'). Laid BY PROGRAM, IN A SANDBOX (cutbox-door.mjs). By AI agents, Wed Nov 11 2026. No macro, syntax, notation, axiom, sorry.
-/
import Derived.Test.YtdogncjcainhlaaDoorRows
import GoSem.ClaimSeven
namespace Go.Proofs.YtdogncjcainhlaaDoor
namespace Rows

/-- THE TIED CARD OF 'bywaylaw.Routed'. -/
def routedCard : Claim7 := { stood := { row := routedRow, standIns := [], harness := (true, "c1f303ca970229f5f31fe32ef788509f2d846d58892bb249604fec800c619e03"), looks := false }, kinds := [], alts := [], laidByText := true, laidKinds := [.data, .pinned], laidTests := true, laidLooks := .later }
def RoutedCardSaid : Prop := Claim7.holds Tryd.pinned (.plain (OpenSpec.ofChange routedSpec)) routedCard

/-- THE TIED CARD OF 'bywaykeep.Ways'. -/
def waysCard : Claim7 := { stood := { row := waysRow, standIns := [], harness := (true, "c1f303ca970229f5f31fe32ef788509f2d846d58892bb249604fec800c619e03"), looks := false }, kinds := [], alts := [], laidByText := true, laidKinds := [.data, .pinned], laidTests := true, laidLooks := .later }
def WaysCardSaid : Prop := Claim7.holds Tryd.pinned (.plain (OpenSpec.ofChange waysSpec)) waysCard

/-- THE TIED CARD OF 'bywaykeep.First'. -/
def firstCard : Claim7 := { stood := { row := firstRow, standIns := [], harness := (true, "c1f303ca970229f5f31fe32ef788509f2d846d58892bb249604fec800c619e03"), looks := false }, kinds := [], alts := [], laidByText := true, laidKinds := [.data, .pinned], laidTests := true, laidLooks := .later }
def FirstCardSaid : Prop := Claim7.holds Tryd.pinned (.plain (OpenSpec.ofChange firstSpec)) firstCard

/-- THE TIED CARD OF 'bywaylaw.Labelled'. -/
def labelledCard : Claim7 := { stood := { row := labelledRow, standIns := [], harness := (true, "c1f303ca970229f5f31fe32ef788509f2d846d58892bb249604fec800c619e03"), looks := false }, kinds := [], alts := [], laidByText := true, laidKinds := [.data, .pinned], laidTests := true, laidLooks := .later }
def LabelledCardSaid : Prop := Claim7.holds Tryd.pinned (.plain (OpenSpec.ofChange labelledSpec)) labelledCard

/-- THE TIED CARD OF 'bywaykeep.Covered'. -/
def coveredCard : Claim7 := { stood := { row := coveredRow, standIns := [], harness := (true, "c1f303ca970229f5f31fe32ef788509f2d846d58892bb249604fec800c619e03"), looks := false }, kinds := [], alts := [], laidByText := true, laidKinds := [.data, .pinned], laidTests := true, laidLooks := .later }
def CoveredCardSaid : Prop := Claim7.holds Tryd.pinned (.plain (OpenSpec.ofChange coveredSpec)) coveredCard

/-- THE TIED CARD OF 'bywaylaw.Saved'. -/
def savedCard : Claim7 := { stood := { row := savedRow, standIns := [], harness := (true, "c1f303ca970229f5f31fe32ef788509f2d846d58892bb249604fec800c619e03"), looks := false }, kinds := [], alts := [], laidByText := true, laidKinds := [.data, .pinned], laidTests := true, laidLooks := .later }
def SavedCardSaid : Prop := Claim7.holds Tryd.pinned (.plain (OpenSpec.ofChange savedSpec)) savedCard

/-- THE SECOND FORM's CARD OF 'bywaylaw.Routed'. -/
def routedUptoCard : Claim7 := { stood := { row := routedUptoRow, standIns := [], harness := (true, "c1f303ca970229f5f31fe32ef788509f2d846d58892bb249604fec800c619e03"), looks := false }, kinds := [], alts := [], laidByText := true, laidKinds := [.data, .pinned], laidTests := true, laidLooks := .later }
def RoutedUptoCardSaid : Prop := Claim7.holds Tryd.pinned (.plain (OpenSpec.upto routedSpec)) routedUptoCard

/-- THE SECOND FORM's CARD OF 'bywaykeep.Ways'. -/
def waysUptoCard : Claim7 := { stood := { row := waysUptoRow, standIns := [], harness := (true, "c1f303ca970229f5f31fe32ef788509f2d846d58892bb249604fec800c619e03"), looks := false }, kinds := [], alts := [], laidByText := true, laidKinds := [.data, .pinned], laidTests := true, laidLooks := .later }
def WaysUptoCardSaid : Prop := Claim7.holds Tryd.pinned (.plain (OpenSpec.upto waysSpec)) waysUptoCard

/-- THE SECOND FORM's CARD OF 'bywaykeep.First'. -/
def firstUptoCard : Claim7 := { stood := { row := firstUptoRow, standIns := [], harness := (true, "c1f303ca970229f5f31fe32ef788509f2d846d58892bb249604fec800c619e03"), looks := false }, kinds := [], alts := [], laidByText := true, laidKinds := [.data, .pinned], laidTests := true, laidLooks := .later }
def FirstUptoCardSaid : Prop := Claim7.holds Tryd.pinned (.plain (OpenSpec.upto firstSpec)) firstUptoCard

/-- THE SECOND FORM's CARD OF 'bywaylaw.Labelled'. -/
def labelledUptoCard : Claim7 := { stood := { row := labelledUptoRow, standIns := [], harness := (true, "c1f303ca970229f5f31fe32ef788509f2d846d58892bb249604fec800c619e03"), looks := false }, kinds := [], alts := [], laidByText := true, laidKinds := [.data, .pinned], laidTests := true, laidLooks := .later }
def LabelledUptoCardSaid : Prop := Claim7.holds Tryd.pinned (.plain (OpenSpec.upto labelledSpec)) labelledUptoCard

/-- THE SECOND FORM's CARD OF 'bywaykeep.Covered'. -/
def coveredUptoCard : Claim7 := { stood := { row := coveredUptoRow, standIns := [], harness := (true, "c1f303ca970229f5f31fe32ef788509f2d846d58892bb249604fec800c619e03"), looks := false }, kinds := [], alts := [], laidByText := true, laidKinds := [.data, .pinned], laidTests := true, laidLooks := .later }
def CoveredUptoCardSaid : Prop := Claim7.holds Tryd.pinned (.plain (OpenSpec.upto coveredSpec)) coveredUptoCard

/-- THE SECOND FORM's CARD OF 'bywaylaw.Saved'. -/
def savedUptoCard : Claim7 := { stood := { row := savedUptoRow, standIns := [], harness := (true, "c1f303ca970229f5f31fe32ef788509f2d846d58892bb249604fec800c619e03"), looks := false }, kinds := [], alts := [], laidByText := true, laidKinds := [.data, .pinned], laidTests := true, laidLooks := .later }
def SavedUptoCardSaid : Prop := Claim7.holds Tryd.pinned (.plain (OpenSpec.upto savedSpec)) savedUptoCard
end Rows
end Go.Proofs.YtdogncjcainhlaaDoor
