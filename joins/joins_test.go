package joins

import (
	"testing"

	"byway/records"
)

// label turns pairs of a rank and how far it is into hubs.
func label(pairs ...int) []records.Hub {
	var hubs []records.Hub
	for i := 0; i < len(pairs); i += 2 {
		hubs = append(hubs, records.Hub{Rank: pairs[i], Far: pairs[i+1]})
	}
	return hubs
}

func TestBest(t *testing.T) {
	for _, c := range []struct {
		a, b      []records.Hub
		rank, far int
		found     bool
	}{
		{label(0, 0), label(0, 0), 0, 0, true}, {label(0, 0), label(0, 5, 1, 0), 0, 5, true},
		{label(0, 6, 1, 1, 2, 0), label(0, 5, 1, 0), 1, 1, true}, {label(0, 6, 1, 1, 2, 0), label(0, 6, 1, 1, 2, 0), 2, 0, true},
		{label(0, 0), label(1, 0), 0, 0, false}, {label(0, 3, 2, 9, 4, 0), label(1, 3, 3, 9, 5, 0), 0, 0, false},
		{label(), label(1, 0), 0, 0, false}, {label(1, 0), label(), 0, 0, false}, {label(), label(), 0, 0, false},
		{label(0, 3, 2, 9, 4, 0), label(1, 3, 4, 7, 5, 0), 4, 7, true},
		// of several with the least sum the highest one, wherever others stand
		{label(0, 9, 1, 2, 3, 4, 5, 0), label(0, 9, 1, 4, 2, 1, 3, 2, 6, 0), 1, 6, true},
		{label(0, 3, 1, 2, 5, 0), label(0, 3, 1, 4, 6, 0), 0, 6, true}, {label(0, 4, 1, 3, 5, 0), label(0, 3, 1, 3, 6, 0), 1, 6, true},
		{label(0, 39000, 5, 0), label(0, 39000, 6, 0), 0, 78000, true},
	} {
		want := records.Hub{Rank: c.rank, Far: c.far}
		if best, found := Best(c.a, c.b); best != want || found != c.found {
			t.Errorf("Best(%v, %v) = %v, %v, want %v, %v", c.a, c.b, best, found, want, c.found)
		}
		if best, found := Best(c.b, c.a); best != want || found != c.found {
			t.Errorf("Best(%v, %v) = %v, %v, want %v, %v", c.b, c.a, best, found, want, c.found)
		}
	}
}
