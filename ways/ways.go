// Package ways finds how far it is on a map, and by which way.
package ways

import "byway/atlas"

// Apart stands for how far it is where there is no way.
const Apart = -1

// nowhere stands for a place where there is none.
const nowhere = -1

// FarFrom tells how far each place is from start, which must be a place of the map.
func FarFrom(m *atlas.Map, start int) []int {
	far := make([]int, m.Places)
	for place := range far {
		far[place] = Apart
	}
	far[start] = 0
	done := make([]bool, m.Places)
	for at := start; at != nowhere; at = nearest(far, done) {
		done[at] = true
		goOn(m, far, at)
	}
	return far
}

// goOn notes what is nearer by way of a place than was known so far.
func goOn(m *atlas.Map, far []int, at int) {
	for next := range far {
		length := m.Length[at][next]
		if length == 0 {
			continue
		}
		if sum := far[at] + length; far[next] == Apart || sum < far[next] {
			far[next] = sum
		}
	}
}

// nearest gives the place to go on from, or nowhere if none is left that can be reached.
func nearest(far []int, done []bool) int {
	best := nowhere
	for place, f := range far {
		if done[place] || f == Apart {
			continue
		}
		if best == nowhere || f < far[best] {
			best = place
		}
	}
	return best
}

// First gives of all shortest ways the first one, and how far it is; no way and Apart, if there is none.
func First(m *atlas.Map, from int, to int) ([]int, int) {
	// Measured from the end: so each place on the way knows which steps lead nearer.
	far := FarFrom(m, to)
	if far[from] == Apart {
		return nil, Apart
	}
	way := []int{from}
	for at := from; at != to; {
		at = step(m, far, at)
		way = append(way, at)
	}
	return way, far[from]
}

// step gives the least next place of a shortest way. There is one from each place that is not
// apart from the end and not the end; each step leads nearer, as no road has the length 0.
func step(m *atlas.Map, far []int, at int) int {
	next := 0
	for m.Length[at][next] == 0 || m.Length[at][next]+far[next] != far[at] {
		next++
	}
	return next
}
