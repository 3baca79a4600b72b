/- Proved: for every input the law bywaykeep.Kept returns true, and each argument reads afterwards as it read before: of any town, by any order, a store that was saved and opened again, with however few pages it keeps, tells of any two places how far it is on the map, by a hub that lies between; Around tells the places next to one, by how far they are, as many as are asked for. Conditions: none but the row's own (Go's two listed tables of unicode/utf8 start as their texts lay them, which the card ties). -/
import Derived.Test.YtdogncjcainhlaaGreatDoorPack13
import Derived.Test.YtdogncjcainhlaaGreatDoorTown
namespace Go.Proofs.YtdogncjcainhlaaGreatDoor
theorem kept_card : Rows.KeptCardSaid := kept_card_of town_any
#print axioms kept_card
end Go.Proofs.YtdogncjcainhlaaGreatDoor
