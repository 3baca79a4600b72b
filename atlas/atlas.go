// Package atlas reads the text of a map.
package atlas

import (
	"strings"

	"byway/api"
	"byway/number"
)

// Map is the places 0, 1 and so on, and the roads between them.
type Map struct {
	Places int
	Roads  int
	// Length is the road's length both ways; 0 where there is no road, for no road is so short.
	Length [api.MaxPlaces][api.MaxPlaces]int
}

// Has tells whether a number is a place of the map.
func (m *Map) Has(place int) bool { return place >= 0 && place < m.Places }

type road struct {
	u, v, length int
}

// Parse reads a map; with an error there is none, and the line of the fault is told.
func Parse(text string) (*Map, api.Errno, int) {
	if len(text) > api.MaxText || strings.Count(text, "\n") > api.MaxRoads {
		return nil, api.ErrLong, 0
	}
	lines := strings.Split(text, "\n")
	places, ok := number.Within(lines[0], 1, api.MaxPlaces)
	if !ok {
		return nil, api.ErrForm, 0
	}
	// All lines are read ahead of laying any road: a line that is none comes before a road that is
	// there twice, wherever they stand.
	roads := make([]road, 0, api.MaxRoads)
	for i, line := range lines[1:] {
		r, ok := parseRoad(line, places)
		if !ok {
			return nil, api.ErrForm, i + 1
		}
		roads = append(roads, r)
	}
	return lay(places, roads)
}

func parseRoad(line string, places int) (road, bool) {
	parts := strings.Split(line, " ")
	if len(parts) != 3 {
		return road{}, false
	}
	v, ok := number.Within(parts[1], 0, places-1)
	if !ok {
		return road{}, false
	}
	u, ok := number.Within(parts[0], 0, v-1)
	if !ok {
		return road{}, false
	}
	length, ok := number.Within(parts[2], 1, api.MaxLength)
	if !ok {
		return road{}, false
	}
	return road{u, v, length}, true
}

func lay(places int, roads []road) (*Map, api.Errno, int) {
	m := &Map{Places: places, Roads: len(roads)}
	for i, r := range roads {
		if m.Length[r.u][r.v] != 0 {
			// The first line of the text is no road.
			return nil, api.ErrTwice, i + 1
		}
		m.Length[r.u][r.v] = r.length
		m.Length[r.v][r.u] = r.length
	}
	return m, api.OK, 0
}
