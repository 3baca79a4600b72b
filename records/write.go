// Package records writes and reads what the pages of a store hold: an order of places, and their labels.
package records

import (
	"byway/api"
	"byway/counts"
)

// mark is what each store begins with.
const mark = "bw"

// Write gives the bytes of an order and its labels. The labels must stand by rising places, those of
// one place from the highest hub to the lowest.
func Write(order []int, labels []api.Label) string {
	held := append([]byte(mark), byte(len(order)))
	ranks := make([]int, len(order))
	for rank, place := range order {
		held = append(held, byte(place))
		ranks[place] = rank
	}
	var behind []byte
	for place := range len(order) {
		label := writeLabel(hubsOf(place, labels), ranks)
		held = counts.Append(held, len(label))
		behind = append(behind, label...)
	}
	return string(append(held, behind...))
}

func hubsOf(place int, labels []api.Label) []api.Label {
	var hubs []api.Label
	for _, label := range labels {
		if label.Place == place {
			hubs = append(hubs, label)
		}
	}
	return hubs
}

func writeLabel(hubs []api.Label, ranks []int) []byte {
	label := counts.Append(nil, len(hubs))
	next := 0
	for _, hub := range hubs {
		rank := ranks[hub.Hub]
		label = counts.Append(label, rank-next)
		label = counts.Append(label, hub.Far)
		next = rank + 1
	}
	return label
}
