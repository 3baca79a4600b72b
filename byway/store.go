package byway

import (
	"cmp"
	"slices"
	"sync"

	"byway/api"
	"byway/joins"
	"byway/pages"
	"byway/records"
	"byway/shelf"
)

// Store is labels in pages.
type Store struct {
	// asked is held from the first page of an answer to its last one: which pages are kept, and how
	// many were read, hangs on which call came first.
	asked sync.Mutex
	head  records.Head
	shelf shelf.Shelf
}

// Open opens one (P7).
func Open(data string, cache int) (*Store, api.Errno, int) {
	if cache < 1 || cache > api.MaxCache {
		return nil, api.ErrConf, 0
	}
	if len(data) > api.MaxStore {
		return nil, api.ErrLong, 0
	}
	if data == "" || len(data)%api.Page != 0 {
		return nil, api.ErrStore, 0
	}
	if wrong := pages.FirstWrong(data); wrong != pages.Right {
		return nil, api.ErrSum, wrong
	}
	held := pages.Held(data)
	head, ok := records.Read(held)
	if !ok {
		return nil, api.ErrStore, 0
	}
	return &Store{head: head, shelf: shelf.New(held, cache)}, api.OK, 0
}

// Far tells how far it is (P8).
func (s *Store) Far(from int, to int) (int, int, api.Errno) {
	s.asked.Lock()
	defer s.asked.Unlock()
	if !s.head.Has(from) || !s.head.Has(to) {
		return 0, 0, api.ErrNode
	}
	// One behind the other in lines of their own: the pages of from are to be looked at first.
	start := s.label(from)
	end := s.label(to)
	best, ok := joins.Best(start, end)
	if !ok {
		return 0, 0, api.ErrApart
	}
	return best.Far, s.head.PlaceOf(best.Rank), api.OK
}

// Around tells the nearest places (P8).
func (s *Store) Around(from int, n int) ([]api.Near, api.Errno) {
	s.asked.Lock()
	defer s.asked.Unlock()
	if !s.head.Has(from) {
		return nil, api.ErrNode
	}
	if n < 0 || n > api.MaxPlaces {
		return nil, api.ErrConf
	}
	others := s.others(from)
	slices.SortFunc(others, func(a, b api.Near) int {
		return cmp.Or(cmp.Compare(a.Far, b.Far), cmp.Compare(a.Place, b.Place))
	})
	return slices.Clone(others[:min(n, len(others))]), api.OK
}

// Reads tells how many pages were read (P8).
func (s *Store) Reads() int {
	s.asked.Lock()
	defer s.asked.Unlock()
	return s.shelf.Reads()
}

// others gives all other places that have a hub in common with a place, by rising numbers. It looks
// at all labels, however few of the places are asked for.
func (s *Store) others(from int) []api.Near {
	start := s.label(from)
	var others []api.Near
	for place := range s.head.Places() {
		if place == from {
			continue
		}
		if best, ok := joins.Best(start, s.label(place)); ok {
			others = append(others, api.Near{Place: place, Far: best.Far})
		}
	}
	return others
}

// label reads the hubs of a place from the pages in which they lie.
func (s *Store) label(place int) []records.Hub {
	// It is a label: Open has asked that of all of them.
	hubs, _ := records.ReadLabel(s.shelf.Take(s.head.Bounds(place)))
	return hubs
}
