// Package joins finds by which hub two labels are joined.
package joins

import "byway/records"

// Best gives of all hubs in common the one with the least sum of how far it is from both, and of
// those with this sum the highest one; the sum is told as how far it is. The hubs of both labels
// must stand by rising ranks.
func Best(a []records.Hub, b []records.Hub) (records.Hub, bool) {
	var best records.Hub
	found := false
	for len(a) > 0 && len(b) > 0 {
		switch {
		case a[0].Rank < b[0].Rank:
			a = a[1:]
		case a[0].Rank > b[0].Rank:
			b = b[1:]
		default:
			// The higher ones come first: one with the same sum is not better.
			if sum := a[0].Far + b[0].Far; !found || sum < best.Far {
				best = records.Hub{Rank: a[0].Rank, Far: sum}
				found = true
			}
			a, b = a[1:], b[1:]
		}
	}
	return best, found
}
