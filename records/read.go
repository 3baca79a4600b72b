package records

import (
	"slices"
	"strings"

	"byway/api"
	"byway/counts"
)

// head is what stands ahead of the labels.
type head struct {
	order []int
	// starts tells at which byte the label of each place begins, and at last where the labels end.
	starts []int
}

// hub is told by its rank: how many places are higher.
type hub struct {
	rank, far int
}

// Valid tells whether the bytes, of whole pages, are what Write gives, to the last one.
func Valid(held string) bool {
	h, ok := readHead(held)
	if !ok {
		return false
	}
	end := h.starts[len(h.order)]
	if end > len(held) {
		return false
	}
	for place := range len(h.order) {
		hubs, ok := readLabel(held[h.starts[place]:h.starts[place+1]])
		if !ok || !isLabelOf(place, hubs, h.order) {
			return false
		}
	}
	return isFill(held[end:])
}

func readHead(held string) (head, bool) {
	rest, ok := strings.CutPrefix(held, mark)
	if !ok || rest == "" {
		return head{}, false
	}
	places := int(rest[0])
	rest = rest[1:]
	if places < 1 || places > api.MaxPlaces || places > len(rest) {
		return head{}, false
	}
	order, ok := readOrder(rest[:places])
	if !ok {
		return head{}, false
	}
	rest = rest[places:]
	sizes := make([]int, places)
	for place := range sizes {
		n, size, ok := counts.Read(rest)
		if !ok {
			return head{}, false
		}
		sizes[place] = n
		rest = rest[size:]
	}
	return head{order, startsBehind(len(held)-len(rest), sizes)}, true
}

// readOrder reads a byte a place: all that there are, each once.
func readOrder(text string) ([]int, bool) {
	var order []int
	for i := range len(text) {
		place := int(text[i])
		if place >= len(text) || slices.Contains(order, place) {
			return nil, false
		}
		order = append(order, place)
	}
	return order, true
}

func startsBehind(first int, sizes []int) []int {
	starts := []int{first}
	for place, size := range sizes {
		starts = append(starts, starts[place]+size)
	}
	return starts
}

// readLabel reads a label that must fill its bytes.
func readLabel(label string) ([]hub, bool) {
	numbers, ok := counts.ReadAll(label)
	if !ok || len(numbers) == 0 || len(numbers) != 1+2*numbers[0] {
		return nil, false
	}
	var hubs []hub
	next := 0
	for i := 1; i < len(numbers); i += 2 {
		rank := next + numbers[i]
		hubs = append(hubs, hub{rank, numbers[i+1]})
		next = rank + 1
	}
	return hubs, true
}

// isLabelOf tells whether the last hub is the place itself, and the others are as far as may be.
// They are higher than it, as the ranks of hubs rise.
func isLabelOf(place int, hubs []hub, order []int) bool {
	if len(hubs) == 0 {
		return false
	}
	own, others := hubs[len(hubs)-1], hubs[:len(hubs)-1]
	if own.rank >= len(order) || order[own.rank] != place || own.far != 0 {
		return false
	}
	for _, other := range others {
		if other.far < 1 || other.far > api.MaxFar {
			return false
		}
	}
	return true
}

// isFill tells whether the bytes do no more than fill the last page.
func isFill(text string) bool {
	return len(text) < api.Held && strings.Trim(text, "\x00") == ""
}
