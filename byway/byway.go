// Package byway: how far it is, told by labels: see DOC.md.
package byway

import (
	"byway/api"
	"byway/atlas"
	"byway/hubs"
	"byway/ranks"
	"byway/ways"
)

// Read tells how many places and roads a map has (P3).
func Read(text string) (int, int, api.Errno, int) {
	m, e, at := atlas.Parse(text)
	if e != api.OK {
		return 0, 0, e, at
	}
	return m.Places, m.Roads, api.OK, 0
}

// Route gives the first one of all shortest ways (P4).
func Route(text string, from int, to int) ([]int, int, api.Errno, int) {
	m, e, at := atlas.Parse(text)
	if e != api.OK {
		return nil, 0, e, at
	}
	if !m.Has(from) || !m.Has(to) {
		return nil, 0, api.ErrNode, 0
	}
	way, far := ways.First(m, from, to)
	if far == ways.Apart {
		return nil, 0, api.ErrApart, 0
	}
	return way, far, api.OK, 0
}

// Labels gives all labels (P5).
func Labels(text string, order string) ([]api.Label, api.Errno, int) {
	m, e, at := atlas.Parse(text)
	if e != api.OK {
		return nil, e, at
	}
	ranked, ok := ranks.Parse(m, order)
	if !ok {
		return nil, api.ErrOrder, 0
	}
	return hubs.Labels(m, ranked), api.OK, 0
}

// Save puts the labels into pages (P6).
func Save(text string, order string) (string, api.Errno, int) { return "", api.OK, 0 }

// Store is labels in pages.
type Store struct{}

// Open opens one (P7).
func Open(data string, cache int) (*Store, api.Errno, int) { return nil, api.OK, 0 }

// Far tells how far it is (P8).
func (s *Store) Far(from int, to int) (int, int, api.Errno) { return 0, 0, api.OK }

// Around tells the nearest places (P8).
func (s *Store) Around(from int, n int) ([]api.Near, api.Errno) { return nil, api.OK }

// Reads tells how many pages were read (P8).
func (s *Store) Reads() int { return 0 }
