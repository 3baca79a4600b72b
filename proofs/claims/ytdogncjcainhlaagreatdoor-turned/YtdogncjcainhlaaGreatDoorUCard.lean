/- Proved: for every input the law bywaykeep.Turned returns true, and each argument reads afterwards as it read before: bytes of a saved store of which one was turned, or two in a row of those that a page holds, are told by Open; so are pages that change places, too few, or too many. Conditions: none but the row's own (Go's two listed tables of unicode/utf8 start as their texts lay them, which the card ties). -/
import Derived.Test.YtdogncjcainhlaaGreatDoorUProof
import Derived.Test.YtdogncjcainhlaaGreatDoorTown
namespace Go.Proofs.YtdogncjcainhlaaGreatDoor
theorem turned_card : Rows.TurnedCardSaid := turned_card_of town_any
#print axioms turned_card
end Go.Proofs.YtdogncjcainhlaaGreatDoor
