// Package shelf reads the pages of a store, and keeps those that were looked at last.
package shelf

import (
	"slices"
	"strings"

	"byway/api"
)

// Shelf has room for some pages.
type Shelf struct {
	held  string // what all pages hold, one behind the other: they are read from here
	room  int
	kept  []page // the one that was looked at longest ago stands first
	reads int
}

type page struct {
	number int
	held   string
}

// New gives a shelf on which no page stands yet. What is held must be of whole pages.
func New(held string, room int) Shelf {
	return Shelf{held: held, room: room}
}

// Reads tells how many pages were read so far.
func (s *Shelf) Reads() int { return s.reads }

// Take gives the bytes from start on, ahead of end; it looks at the pages in which they lie, by
// rising numbers.
func (s *Shelf) Take(start int, end int) string {
	var taken strings.Builder
	for at := start; at < end; {
		number := at / api.Held
		ahead := number * api.Held
		upTo := min(end, ahead+api.Held)
		// Taken out at once: with little room the page is dropped for the next one.
		taken.WriteString(s.look(number)[at-ahead : upTo-ahead])
		at = upTo
	}
	return taken.String()
}

// look gives what a page holds; of all that are kept it is now the last one to be dropped.
func (s *Shelf) look(number int) string {
	p, ok := s.pick(number)
	if !ok {
		s.makeRoom()
		p = s.read(number)
	}
	s.kept = append(s.kept, p)
	return p.held
}

// pick takes a page off the shelf, if it is kept.
func (s *Shelf) pick(number int) (page, bool) {
	at := slices.IndexFunc(s.kept, func(p page) bool { return p.number == number })
	if at < 0 {
		return page{}, false
	}
	p := s.kept[at]
	s.kept = slices.Delete(s.kept, at, at+1)
	return p, true
}

func (s *Shelf) makeRoom() {
	if len(s.kept) == s.room {
		s.kept = slices.Delete(s.kept, 0, 1)
	}
}

func (s *Shelf) read(number int) page {
	s.reads++
	start := number * api.Held
	return page{number, s.held[start : start+api.Held]}
}
