/-
  NARROWER THAN 'FOR EVERY INPUT', by the rows' own cells (each row's printed sentence says how): Routed: laid · Ways: laid · First: laid · Labelled: laid · Covered: laid · Saved: laid.
  DERIVED. THE GIVEN ROWS OF THIS SEAT. 6 by the template 'for every input the law returns true; each argument reads behind the call as it read before'; 0 by the template 'total and deterministic' (their statements: YtdogncjcainhlaaDoorTotals.lean).
  GIVEN WITH THE SEED: the statements are not yours to turn. If you find one false, say at which input.
  Laid BY PROGRAM, IN A SANDBOX (cutbox-rows.mjs): the forced cells as the released guide's own fill.sh prints them over the translation abca703d3a1ef3c4… (all of the seat's roots in one cut). By AI agents, Wed Nov 11 2026. No macro, syntax, notation, axiom, sorry.
-/
import Derived.Test.YtdogncjcainhlaaDoorChecked
import GoSem.PinnedTables
import GoSem.Claim
import GoSem.ClaimJoined
import GoSem.ClaimMapViews
import Derived.JoinedTies
import Derived.KernelRfl
namespace Go.Proofs.YtdogncjcainhlaaDoor
/- THE CELL 'sum', in the pinned program and in every row, IS THE sha256 OF THE DUMP (.gsa) THAT YtdogncjcainhlaaDoorProg.lean LOADS. Nothing in Lean hashes anything: it is a label: what it is worth is what the hold of that sum in a sandbox is worth. -/
noncomputable def Tryd.pinned : Pinned := { name := "ytdogncjcainhlaadoor", sum := "abca703d3a1ef3c4be0b9a37ae6a42c9ac22a75d584f8e45887bac6cd5c8d240", checked := Tryd.checked }
namespace Rows
def none {H : Type} : Left H := { results := [], args := [] }

/- WHAT THE LISTED PACKAGE-LEVEL VARIABLES READ AS WHEN THE CALL BEGINS. Each datum BY PROGRAM (the guide's laid-datum.mjs) off the statement by which the dump's own 'gosem.cut.vars' lays the variable. In a bare row this is a premise. The card (YtdogncjcainhlaaDoorCards.lean) ties it to the program's text. -/
def laid_unicode_utf8_acceptRanges {H : Type} : DataW H := .agg [.agg [.lit (.int .u8 128), .lit (.int .u8 191)], .agg [.lit (.int .u8 160), .lit (.int .u8 191)], .agg [.lit (.int .u8 128), .lit (.int .u8 159)], .agg [.lit (.int .u8 144), .lit (.int .u8 191)], .agg [.lit (.int .u8 128), .lit (.int .u8 143)], .agg [.lit (.int .u8 0), .lit (.int .u8 0)], .agg [.lit (.int .u8 0), .lit (.int .u8 0)], .agg [.lit (.int .u8 0), .lit (.int .u8 0)], .agg [.lit (.int .u8 0), .lit (.int .u8 0)], .agg [.lit (.int .u8 0), .lit (.int .u8 0)], .agg [.lit (.int .u8 0), .lit (.int .u8 0)], .agg [.lit (.int .u8 0), .lit (.int .u8 0)], .agg [.lit (.int .u8 0), .lit (.int .u8 0)], .agg [.lit (.int .u8 0), .lit (.int .u8 0)], .agg [.lit (.int .u8 0), .lit (.int .u8 0)], .agg [.lit (.int .u8 0), .lit (.int .u8 0)]]
/-- One of Go's own tables, pinned by name: the form's constant. -/
def laid_unicode_utf8_first : DataW Unit := Go.Pinned.utf8First

/-- 'bywaylaw.Routed': WHATEVER THE INPUT: true; the input reads as it did. -/
def routedSpec : ChangeSpec := { name := "routed", fn := fun _ => fun
  | [d1, d2, d3, d4] => { results := [.lit (.bool true)], args := [d1, d2, d3, d4] }
  | _ => none }
def routedRow : OpenClaim := { program := "ytdogncjcainhlaadoor", sum := "abca703d3a1ef3c4be0b9a37ae6a42c9ac22a75d584f8e45887bac6cd5c8d240", func := "byway/bywaylaw.Routed", spec := "routed", inPlace := ["internal/bytealg.CountString", "internal/bytealg.IndexByteString", "internal/bytealg.IndexString"], named := ["internal/bytealg.MaxLen", "unicode/utf8.first", "unicode/utf8.acceptRanges"], apart := false, laid := [("unicode/utf8.acceptRanges", laid_unicode_utf8_acceptRanges), ("unicode/utf8.first", laid_unicode_utf8_first)] }
def RoutedSaid : Prop := routedRow.holds Tryd.pinned (OpenSpec.ofChange routedSpec)

/-- ITS FALSE NEIGHBOUR: 'it returns false'. Refute it at one input. -/
def routedWrong : ChangeSpec := { name := "routed", fn := fun _ => fun
  | [d1, d2, d3, d4] => { results := [.lit (.bool false)], args := [d1, d2, d3, d4] }
  | _ => none }
def RoutedWrongFalsely : Prop := routedRow.holds Tryd.pinned (OpenSpec.ofChange routedWrong)

/-- 'bywaykeep.Ways': WHATEVER THE INPUT: true; the input reads as it did. -/
def waysSpec : ChangeSpec := { name := "ways", fn := fun _ => fun
  | [d1, d2, d3] => { results := [.lit (.bool true)], args := [d1, d2, d3] }
  | _ => none }
def waysRow : OpenClaim := { program := "ytdogncjcainhlaadoor", sum := "abca703d3a1ef3c4be0b9a37ae6a42c9ac22a75d584f8e45887bac6cd5c8d240", func := "byway/bywaykeep.Ways", spec := "ways", inPlace := ["internal/bytealg.CountString", "internal/bytealg.IndexByteString", "internal/bytealg.IndexString"], recurses := true, named := ["internal/bytealg.MaxLen", "unicode/utf8.first", "unicode/utf8.acceptRanges"], apart := false, laid := [("unicode/utf8.acceptRanges", laid_unicode_utf8_acceptRanges), ("unicode/utf8.first", laid_unicode_utf8_first)] }
def WaysSaid : Prop := waysRow.holds Tryd.pinned (OpenSpec.ofChange waysSpec)

/-- ITS FALSE NEIGHBOUR: 'it returns false'. Refute it at one input. -/
def waysWrong : ChangeSpec := { name := "ways", fn := fun _ => fun
  | [d1, d2, d3] => { results := [.lit (.bool false)], args := [d1, d2, d3] }
  | _ => none }
def WaysWrongFalsely : Prop := waysRow.holds Tryd.pinned (OpenSpec.ofChange waysWrong)

/-- 'bywaykeep.First': WHATEVER THE INPUT: true; the input reads as it did. -/
def firstSpec : ChangeSpec := { name := "first", fn := fun _ => fun
  | [d1, d2, d3, d4] => { results := [.lit (.bool true)], args := [d1, d2, d3, d4] }
  | _ => none }
def firstRow : OpenClaim := { program := "ytdogncjcainhlaadoor", sum := "abca703d3a1ef3c4be0b9a37ae6a42c9ac22a75d584f8e45887bac6cd5c8d240", func := "byway/bywaykeep.First", spec := "first", inPlace := ["internal/bytealg.CountString", "internal/bytealg.IndexByteString", "internal/bytealg.IndexString"], recurses := true, named := ["internal/bytealg.MaxLen", "unicode/utf8.first", "unicode/utf8.acceptRanges"], apart := false, laid := [("unicode/utf8.acceptRanges", laid_unicode_utf8_acceptRanges), ("unicode/utf8.first", laid_unicode_utf8_first)] }
def FirstSaid : Prop := firstRow.holds Tryd.pinned (OpenSpec.ofChange firstSpec)

/-- ITS FALSE NEIGHBOUR: 'it returns false'. Refute it at one input. -/
def firstWrong : ChangeSpec := { name := "first", fn := fun _ => fun
  | [d1, d2, d3, d4] => { results := [.lit (.bool false)], args := [d1, d2, d3, d4] }
  | _ => none }
def FirstWrongFalsely : Prop := firstRow.holds Tryd.pinned (OpenSpec.ofChange firstWrong)

/-- 'bywaylaw.Labelled': WHATEVER THE INPUT: true; the input reads as it did. -/
def labelledSpec : ChangeSpec := { name := "labelled", fn := fun _ => fun
  | [d1, d2, d3, d4] => { results := [.lit (.bool true)], args := [d1, d2, d3, d4] }
  | _ => none }
def labelledRow : OpenClaim := { program := "ytdogncjcainhlaadoor", sum := "abca703d3a1ef3c4be0b9a37ae6a42c9ac22a75d584f8e45887bac6cd5c8d240", func := "byway/bywaylaw.Labelled", spec := "labelled", inPlace := ["internal/bytealg.CountString", "internal/bytealg.IndexByteString", "internal/bytealg.IndexString"], unfollowed := true, recurses := true, named := ["internal/bytealg.MaxLen", "unicode/utf8.first", "unicode/utf8.acceptRanges"], apart := false, laid := [("unicode/utf8.acceptRanges", laid_unicode_utf8_acceptRanges), ("unicode/utf8.first", laid_unicode_utf8_first)] }
def LabelledSaid : Prop := labelledRow.holds Tryd.pinned (OpenSpec.ofChange labelledSpec)

/-- ITS FALSE NEIGHBOUR: 'it returns false'. Refute it at one input. -/
def labelledWrong : ChangeSpec := { name := "labelled", fn := fun _ => fun
  | [d1, d2, d3, d4] => { results := [.lit (.bool false)], args := [d1, d2, d3, d4] }
  | _ => none }
def LabelledWrongFalsely : Prop := labelledRow.holds Tryd.pinned (OpenSpec.ofChange labelledWrong)

/-- 'bywaykeep.Covered': WHATEVER THE INPUT: true; the input reads as it did. -/
def coveredSpec : ChangeSpec := { name := "covered", fn := fun _ => fun
  | [d1, d2, d3, d4] => { results := [.lit (.bool true)], args := [d1, d2, d3, d4] }
  | _ => none }
def coveredRow : OpenClaim := { program := "ytdogncjcainhlaadoor", sum := "abca703d3a1ef3c4be0b9a37ae6a42c9ac22a75d584f8e45887bac6cd5c8d240", func := "byway/bywaykeep.Covered", spec := "covered", inPlace := ["internal/bytealg.CountString", "internal/bytealg.IndexByteString", "internal/bytealg.IndexString"], unfollowed := true, recurses := true, named := ["internal/bytealg.MaxLen", "unicode/utf8.first", "unicode/utf8.acceptRanges"], apart := false, laid := [("unicode/utf8.acceptRanges", laid_unicode_utf8_acceptRanges), ("unicode/utf8.first", laid_unicode_utf8_first)] }
def CoveredSaid : Prop := coveredRow.holds Tryd.pinned (OpenSpec.ofChange coveredSpec)

/-- ITS FALSE NEIGHBOUR: 'it returns false'. Refute it at one input. -/
def coveredWrong : ChangeSpec := { name := "covered", fn := fun _ => fun
  | [d1, d2, d3, d4] => { results := [.lit (.bool false)], args := [d1, d2, d3, d4] }
  | _ => none }
def CoveredWrongFalsely : Prop := coveredRow.holds Tryd.pinned (OpenSpec.ofChange coveredWrong)

/-- 'bywaylaw.Saved': WHATEVER THE INPUT: true; the input reads as it did. -/
def savedSpec : ChangeSpec := { name := "saved", fn := fun _ => fun
  | [d1, d2, d3, d4] => { results := [.lit (.bool true)], args := [d1, d2, d3, d4] }
  | _ => none }
def savedRow : OpenClaim := { program := "ytdogncjcainhlaadoor", sum := "abca703d3a1ef3c4be0b9a37ae6a42c9ac22a75d584f8e45887bac6cd5c8d240", func := "byway/bywaylaw.Saved", spec := "saved", inPlace := ["internal/bytealg.CountString", "internal/bytealg.IndexByteString", "internal/bytealg.IndexString", "internal/abi.NoEscape", "internal/bytealg.MakeNoZero"], unfollowed := true, recurses := true, named := ["internal/bytealg.MaxLen", "unicode/utf8.first", "unicode/utf8.acceptRanges"], apart := false, laid := [("unicode/utf8.acceptRanges", laid_unicode_utf8_acceptRanges), ("unicode/utf8.first", laid_unicode_utf8_first)] }
def SavedSaid : Prop := savedRow.holds Tryd.pinned (OpenSpec.ofChange savedSpec)

/-- ITS FALSE NEIGHBOUR: 'it returns false'. Refute it at one input. -/
def savedWrong : ChangeSpec := { name := "saved", fn := fun _ => fun
  | [d1, d2, d3, d4] => { results := [.lit (.bool false)], args := [d1, d2, d3, d4] }
  | _ => none }
def SavedWrongFalsely : Prop := savedRow.holds Tryd.pinned (OpenSpec.ofChange savedWrong)

/- THE SECOND FORM. 'bulk': how many values and letters a reading holds, each counted each time it is reached (what is shared counts as often as it is met; a slice's spare places count too). A statement '..UptoSaid' is the law's where the arguments, and the package variables that the reading takes, are together of bulk at most 1048576: NARROWER than '..Said'. Prove '..Said' where nothing that the law and all that it calls make is longer than what came in: it says more and counts as full. Else prove '..UptoSaid'. A law counts once. -/
mutual
def uptoBulk {H : Type} : DataW H → Nat
  | .lit (.string bytes) => bytes.length + 1
  | .lit _ => 1
  | .nil => 1
  | .ptr d => uptoBulk d + 1
  | .slice elems spare => uptoBulkAll elems + uptoBulkAll spare + 1
  | .agg parts => uptoBulkAll parts + 1
  | .iface _ d => uptoBulk d + 1
  | .map entries => uptoBulkEntries entries + 1
  | .held _ => 1
def uptoBulkAll {H : Type} : List (DataW H) → Nat
  | [] => 0
  | d :: r => uptoBulk d + uptoBulkAll r
def uptoBulkEntries {H : Type} : List (Lit × DataW H) → Nat
  | [] => 0
  | x :: r => uptoBulkEntry x + uptoBulkEntries r
def uptoBulkEntry {H : Type} : Lit × DataW H → Nat
  | (.string bytes, d) => bytes.length + uptoBulk d + 1
  | (_, d) => uptoBulk d + 1
 end
def uptoSmall : (H : Type) → List (DataW H) → Bool := fun _ ds => decide (uptoBulkAll ds ≤ 1048576)
def OpenSpec.upto (s : _root_.Go.ChangeSpec) : _root_.Go.OpenSpec := { _root_.Go.OpenSpec.ofChange s with cond := some uptoSmall }

/-- 'bywaylaw.Routed', WHERE WHAT IT READS IS OF BULK AT MOST 1048576: true; the input reads as it did. -/
def routedUptoRow : OpenClaim := { program := "ytdogncjcainhlaadoor", sum := "abca703d3a1ef3c4be0b9a37ae6a42c9ac22a75d584f8e45887bac6cd5c8d240", func := "byway/bywaylaw.Routed", spec := "routed", inPlace := ["internal/bytealg.CountString", "internal/bytealg.IndexByteString", "internal/bytealg.IndexString"], named := ["internal/bytealg.MaxLen", "unicode/utf8.first", "unicode/utf8.acceptRanges"], apart := false, laid := [("unicode/utf8.acceptRanges", laid_unicode_utf8_acceptRanges), ("unicode/utf8.first", laid_unicode_utf8_first)], narrowed := true }
def RoutedUptoSaid : Prop := routedUptoRow.holds Tryd.pinned (OpenSpec.upto routedSpec)

/-- 'bywaykeep.Ways', WHERE WHAT IT READS IS OF BULK AT MOST 1048576: true; the input reads as it did. -/
def waysUptoRow : OpenClaim := { program := "ytdogncjcainhlaadoor", sum := "abca703d3a1ef3c4be0b9a37ae6a42c9ac22a75d584f8e45887bac6cd5c8d240", func := "byway/bywaykeep.Ways", spec := "ways", inPlace := ["internal/bytealg.CountString", "internal/bytealg.IndexByteString", "internal/bytealg.IndexString"], recurses := true, named := ["internal/bytealg.MaxLen", "unicode/utf8.first", "unicode/utf8.acceptRanges"], apart := false, laid := [("unicode/utf8.acceptRanges", laid_unicode_utf8_acceptRanges), ("unicode/utf8.first", laid_unicode_utf8_first)], narrowed := true }
def WaysUptoSaid : Prop := waysUptoRow.holds Tryd.pinned (OpenSpec.upto waysSpec)

/-- 'bywaykeep.First', WHERE WHAT IT READS IS OF BULK AT MOST 1048576: true; the input reads as it did. -/
def firstUptoRow : OpenClaim := { program := "ytdogncjcainhlaadoor", sum := "abca703d3a1ef3c4be0b9a37ae6a42c9ac22a75d584f8e45887bac6cd5c8d240", func := "byway/bywaykeep.First", spec := "first", inPlace := ["internal/bytealg.CountString", "internal/bytealg.IndexByteString", "internal/bytealg.IndexString"], recurses := true, named := ["internal/bytealg.MaxLen", "unicode/utf8.first", "unicode/utf8.acceptRanges"], apart := false, laid := [("unicode/utf8.acceptRanges", laid_unicode_utf8_acceptRanges), ("unicode/utf8.first", laid_unicode_utf8_first)], narrowed := true }
def FirstUptoSaid : Prop := firstUptoRow.holds Tryd.pinned (OpenSpec.upto firstSpec)

/-- 'bywaylaw.Labelled', WHERE WHAT IT READS IS OF BULK AT MOST 1048576: true; the input reads as it did. -/
def labelledUptoRow : OpenClaim := { program := "ytdogncjcainhlaadoor", sum := "abca703d3a1ef3c4be0b9a37ae6a42c9ac22a75d584f8e45887bac6cd5c8d240", func := "byway/bywaylaw.Labelled", spec := "labelled", inPlace := ["internal/bytealg.CountString", "internal/bytealg.IndexByteString", "internal/bytealg.IndexString"], unfollowed := true, recurses := true, named := ["internal/bytealg.MaxLen", "unicode/utf8.first", "unicode/utf8.acceptRanges"], apart := false, laid := [("unicode/utf8.acceptRanges", laid_unicode_utf8_acceptRanges), ("unicode/utf8.first", laid_unicode_utf8_first)], narrowed := true }
def LabelledUptoSaid : Prop := labelledUptoRow.holds Tryd.pinned (OpenSpec.upto labelledSpec)

/-- 'bywaykeep.Covered', WHERE WHAT IT READS IS OF BULK AT MOST 1048576: true; the input reads as it did. -/
def coveredUptoRow : OpenClaim := { program := "ytdogncjcainhlaadoor", sum := "abca703d3a1ef3c4be0b9a37ae6a42c9ac22a75d584f8e45887bac6cd5c8d240", func := "byway/bywaykeep.Covered", spec := "covered", inPlace := ["internal/bytealg.CountString", "internal/bytealg.IndexByteString", "internal/bytealg.IndexString"], unfollowed := true, recurses := true, named := ["internal/bytealg.MaxLen", "unicode/utf8.first", "unicode/utf8.acceptRanges"], apart := false, laid := [("unicode/utf8.acceptRanges", laid_unicode_utf8_acceptRanges), ("unicode/utf8.first", laid_unicode_utf8_first)], narrowed := true }
def CoveredUptoSaid : Prop := coveredUptoRow.holds Tryd.pinned (OpenSpec.upto coveredSpec)

/-- 'bywaylaw.Saved', WHERE WHAT IT READS IS OF BULK AT MOST 1048576: true; the input reads as it did. -/
def savedUptoRow : OpenClaim := { program := "ytdogncjcainhlaadoor", sum := "abca703d3a1ef3c4be0b9a37ae6a42c9ac22a75d584f8e45887bac6cd5c8d240", func := "byway/bywaylaw.Saved", spec := "saved", inPlace := ["internal/bytealg.CountString", "internal/bytealg.IndexByteString", "internal/bytealg.IndexString", "internal/abi.NoEscape", "internal/bytealg.MakeNoZero"], unfollowed := true, recurses := true, named := ["internal/bytealg.MaxLen", "unicode/utf8.first", "unicode/utf8.acceptRanges"], apart := false, laid := [("unicode/utf8.acceptRanges", laid_unicode_utf8_acceptRanges), ("unicode/utf8.first", laid_unicode_utf8_first)], narrowed := true }
def SavedUptoSaid : Prop := savedUptoRow.holds Tryd.pinned (OpenSpec.upto savedSpec)

end Rows
end Go.Proofs.YtdogncjcainhlaaDoor
