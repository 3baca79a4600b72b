// Package hubs finds the labels of a map's places.
package hubs

import (
	"byway/api"
	"byway/atlas"
	"byway/ways"
)

// Labels gives all labels by rising places, those of one place from the highest hub to the lowest.
// The order must hold all places of the map, each once.
func Labels(m *atlas.Map, order []int) []api.Label {
	far := make([][]int, m.Places)
	for place := range far {
		far[place] = ways.FarFrom(m, place)
	}
	var labels []api.Label
	for place := range m.Places {
		for rank, hub := range order {
			if isHub(far, place, hub, order[:rank]) {
				labels = append(labels, api.Label{Place: place, Hub: hub, Far: far[place][hub]})
			}
		}
	}
	return labels
}

// isHub tells whether no place that is higher than hub lies between it and place.
func isHub(far [][]int, place int, hub int, higher []int) bool {
	if far[place][hub] == ways.Apart {
		return false
	}
	for _, middle := range higher {
		if liesBetween(far, place, middle, hub) {
			return false
		}
	}
	return true
}

func liesBetween(far [][]int, from int, middle int, to int) bool {
	if far[from][middle] == ways.Apart || far[middle][to] == ways.Apart {
		return false
	}
	return far[from][middle]+far[middle][to] == far[from][to]
}
