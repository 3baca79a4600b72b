/- Proved: where what it reads is of bulk at most 1048576, for every script the law bywaylaw.Stores returns true, and the script reads afterwards as it read before: Open of any bytes answers as the document's own Open does, and so do Far, Around and Reads of each store, in every order, several stores side by side; every list that came out stays its owner's. Conditions: the row's own bound (the first form is false by size alone); Go's two listed tables of unicode/utf8 start as their texts lay them, which the card ties. -/
import Derived.Test.YtdogncjcainhlaaGreatDoorPack14
import Derived.Test.YtdogncjcainhlaaGreatDoorRHd
namespace Go.Proofs.YtdogncjcainhlaaGreatDoor
theorem stores_card : Rows.StoresUptoCardSaid := stores_card_of held_any
#print axioms stores_card
end Go.Proofs.YtdogncjcainhlaaGreatDoor
