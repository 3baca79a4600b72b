// Package ranks puts the places of a map in an order, from the highest to the lowest.
package ranks

import (
	"cmp"
	"slices"
	"strings"

	"byway/atlas"
	"byway/number"
)

// Parse reads an order: all places of the map, each once; the empty text is the order by roads.
func Parse(m *atlas.Map, text string) ([]int, bool) {
	if text == "" {
		return byRoads(m), true
	}
	// Counted ahead of being cut: the text may be of any length.
	if strings.Count(text, " ") != m.Places-1 {
		return nil, false
	}
	order := make([]int, 0, m.Places)
	for _, part := range strings.Split(text, " ") {
		place, ok := number.Within(part, 0, m.Places-1)
		if !ok || slices.Contains(order, place) {
			return nil, false
		}
		order = append(order, place)
	}
	return order, true
}

func byRoads(m *atlas.Map) []int {
	order := make([]int, m.Places)
	roads := make([]int, m.Places)
	for place := range order {
		order[place] = place
		roads[place] = countRoads(m, place)
	}
	slices.SortFunc(order, func(a, b int) int {
		return cmp.Or(cmp.Compare(roads[b], roads[a]), cmp.Compare(a, b))
	})
	return order
}

func countRoads(m *atlas.Map, place int) int {
	count := 0
	for _, length := range m.Length[place] {
		if length != 0 {
			count++
		}
	}
	return count
}
