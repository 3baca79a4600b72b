/- Proved: for every input the law bywaykeep.Paged returns true, and each argument reads afterwards as it read before: of any town, whatever is asked of two stores, one that keeps one page and one that keeps eight: both tell the same; a Far reads no more pages than twice those there are; the one with eight reads no more than the one with one, and none twice where it has room for all; a Far that is refused reads none. Conditions: none but the row's own (Go's two listed tables of unicode/utf8 start as their texts lay them, which the card ties). -/
import Derived.Test.YtdogncjcainhlaaGreatDoorPack11
import Derived.Test.YtdogncjcainhlaaGreatDoorTown
namespace Go.Proofs.YtdogncjcainhlaaGreatDoor
theorem paged_card : Rows.PagedCardSaid := paged_card_of town_any
#print axioms paged_card
end Go.Proofs.YtdogncjcainhlaaGreatDoor
