/- Proved: for every input the law bywaykeep.Ways returns true, and each argument reads afterwards as it read before: of any town Route gives ways by roads, as long as told; no road shortens any; places are apart just if no road leads from what can be reached. Conditions: none but the row's own (Go's two listed tables of unicode/utf8 start as their texts lay them, which the card ties). -/
import Derived.Test.YtdogncjcainhlaaDoorWProof
import Derived.Test.YtdogncjcainhlaaDoorTown
namespace Go.Proofs.YtdogncjcainhlaaDoor
theorem ways_card : Rows.WaysCardSaid := ways_card_of town_any
#print axioms ways_card
end Go.Proofs.YtdogncjcainhlaaDoor
