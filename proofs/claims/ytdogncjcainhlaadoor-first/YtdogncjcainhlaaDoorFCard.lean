/- Proved: for every input the law bywaykeep.First returns true, and each argument reads afterwards as it read before: of all shortest ways of any town Route tells the first one. Conditions: none but the row's own (Go's two listed tables of unicode/utf8 start as their texts lay them, which the card ties). -/
import Derived.Test.YtdogncjcainhlaaDoorFProof
import Derived.Test.YtdogncjcainhlaaDoorTown
namespace Go.Proofs.YtdogncjcainhlaaDoor
theorem first_card : Rows.FirstCardSaid := first_card_of town_any
#print axioms first_card
end Go.Proofs.YtdogncjcainhlaaDoor
