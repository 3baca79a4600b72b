// Package byway: how far it is, told by labels: see DOC.md.
package byway

import (
	"byway/api"
	"byway/atlas"
	"byway/hubs"
	"byway/pages"
	"byway/ranks"
	"byway/records"
	"byway/ways"
)

// Read tells how many places and roads a map has (P3).
func Read(text string) (int, int, api.Errno, int) {
	m, e, at := atlas.Parse(text)
	if e != api.OK {
		return 0, 0, e, at
	}
	return m.Places, m.Roads, api.OK, 0
}

// Route gives the first one of all shortest ways (P4).
func Route(text string, from int, to int) ([]int, int, api.Errno, int) {
	m, e, at := atlas.Parse(text)
	if e != api.OK {
		return nil, 0, e, at
	}
	if !m.Has(from) || !m.Has(to) {
		return nil, 0, api.ErrNode, 0
	}
	way, far := ways.First(m, from, to)
	if far == ways.Apart {
		return nil, 0, api.ErrApart, 0
	}
	return way, far, api.OK, 0
}

// Labels gives all labels (P5).
func Labels(text string, order string) ([]api.Label, api.Errno, int) {
	_, labels, e, at := rankAndLabel(text, order)
	return labels, e, at
}

// Save puts the labels into pages (P6).
func Save(text string, order string) (string, api.Errno, int) {
	ranked, labels, e, at := rankAndLabel(text, order)
	if e != api.OK {
		return "", e, at
	}
	return pages.Write(records.Write(ranked, labels)), api.OK, 0
}

// rankAndLabel gives the places from the highest to the lowest, and all labels.
func rankAndLabel(text string, order string) ([]int, []api.Label, api.Errno, int) {
	m, e, at := atlas.Parse(text)
	if e != api.OK {
		return nil, nil, e, at
	}
	ranked, ok := ranks.Parse(m, order)
	if !ok {
		return nil, nil, api.ErrOrder, 0
	}
	return ranked, hubs.Labels(m, ranked), api.OK, 0
}
