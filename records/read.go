package records

import (
	"slices"
	"strings"

	"byway/api"
	"byway/counts"
)

// Head is what stands ahead of the labels.
type Head struct {
	order []int
	// starts tells at which byte the label of each place begins, and at last where the labels end.
	starts []int
}

// Places tells how many places there are.
func (h Head) Places() int { return len(h.order) }

// Has tells whether a number is a place.
func (h Head) Has(place int) bool { return place >= 0 && place < len(h.order) }

// Bounds tells at which byte the label of a place begins, and ahead of which it ends.
func (h Head) Bounds(place int) (int, int) { return h.starts[place], h.starts[place+1] }

// PlaceOf gives the place of a rank.
func (h Head) PlaceOf(rank int) int { return h.order[rank] }

// Hub is told by its rank: how many places are higher.
type Hub struct {
	Rank, Far int
}

// Read reads what stands ahead of the labels, if the bytes, of whole pages, are what Write gives, to
// the last one.
func Read(held string) (Head, bool) {
	h, ok := readHead(held)
	if !ok || !areLabels(held, h) {
		return Head{}, false
	}
	return h, true
}

// areLabels tells whether the labels stand where the head says, and behind them nothing.
func areLabels(held string, h Head) bool {
	end := h.starts[len(h.order)]
	if end > len(held) {
		return false
	}
	for place := range len(h.order) {
		hubs, ok := ReadLabel(held[h.starts[place]:h.starts[place+1]])
		if !ok || !isLabelOf(place, hubs, h.order) {
			return false
		}
	}
	return isFill(held[end:])
}

func readHead(held string) (Head, bool) {
	rest, ok := strings.CutPrefix(held, mark)
	if !ok || rest == "" {
		return Head{}, false
	}
	places := int(rest[0])
	rest = rest[1:]
	if places < 1 || places > api.MaxPlaces || places > len(rest) {
		return Head{}, false
	}
	order, ok := readOrder(rest[:places])
	if !ok {
		return Head{}, false
	}
	rest = rest[places:]
	sizes := make([]int, places)
	for place := range sizes {
		n, size, ok := counts.Read(rest)
		if !ok {
			return Head{}, false
		}
		sizes[place] = n
		rest = rest[size:]
	}
	return Head{order, startsBehind(len(held)-len(rest), sizes)}, true
}

// readOrder reads a byte a place: all that there are, each once.
func readOrder(text string) ([]int, bool) {
	var order []int
	for i := range len(text) {
		place := int(text[i])
		if place >= len(text) || slices.Contains(order, place) {
			return nil, false
		}
		order = append(order, place)
	}
	return order, true
}

func startsBehind(first int, sizes []int) []int {
	starts := []int{first}
	for place, size := range sizes {
		starts = append(starts, starts[place]+size)
	}
	return starts
}

// ReadLabel reads a label that must fill its bytes: its hubs, by rising ranks.
func ReadLabel(label string) ([]Hub, bool) {
	numbers, ok := counts.ReadAll(label)
	if !ok || len(numbers) == 0 || len(numbers) != 1+2*numbers[0] {
		return nil, false
	}
	var hubs []Hub
	next := 0
	for i := 1; i < len(numbers); i += 2 {
		rank := next + numbers[i]
		hubs = append(hubs, Hub{rank, numbers[i+1]})
		next = rank + 1
	}
	return hubs, true
}

// isLabelOf tells whether the last hub is the place itself, and the others are as far as may be.
// They are higher than it, as the ranks of hubs rise.
func isLabelOf(place int, hubs []Hub, order []int) bool {
	if len(hubs) == 0 {
		return false
	}
	own, others := hubs[len(hubs)-1], hubs[:len(hubs)-1]
	if own.Rank >= len(order) || order[own.Rank] != place || own.Far != 0 {
		return false
	}
	for _, other := range others {
		if other.Far < 1 || other.Far > api.MaxFar {
			return false
		}
	}
	return true
}

// isFill tells whether the bytes do no more than fill the last page.
func isFill(text string) bool {
	return len(text) < api.Held && strings.Trim(text, "\x00") == ""
}
