package byway_test

import (
	"math"
	"math/rand"
	"slices"
	"sync"
	"testing"

	"byway/api"
	"byway/byway"
)

// opened gives the store of a data that must be one.
func opened(t *testing.T, data string, cache int) *byway.Store {
	t.Helper()
	s, e, at := byway.Open(data, cache)
	if s == nil || e != api.OK || at != 0 {
		t.Fatalf("Open(%.200x, %d) = %v, %d, %d", data, cache, s != nil, e, at)
	}
	return s
}

func askFar(t *testing.T, s *byway.Store, from, to, far, hub int, e api.Errno) {
	t.Helper()
	if gotFar, gotHub, gotE := s.Far(from, to); gotFar != far || gotHub != hub || gotE != e {
		t.Errorf("Far(%d, %d) = %d, %d, %d, want %d, %d, %d", from, to, gotFar, gotHub, gotE, far, hub, e)
	}
}

// nearRows turns rows of a place and how far it is into what Around answers.
func nearRows(rows ...[2]int) []api.Near {
	var near []api.Near
	for _, row := range rows {
		near = append(near, api.Near{Place: row[0], Far: row[1]})
	}
	return near
}

func askAround(t *testing.T, s *byway.Store, from, n int, want []api.Near, e api.Errno) {
	t.Helper()
	if near, gotE := s.Around(from, n); !slices.Equal(near, want) || gotE != e {
		t.Errorf("Around(%d, %d) = %v, %d, want %v, %d", from, n, near, gotE, want, e)
	}
}

func askReads(t *testing.T, s *byway.Store, want int) {
	t.Helper()
	if reads := s.Reads(); reads != want {
		t.Errorf("Reads() = %d, want %d", reads, want)
	}
}

func TestP8Far(t *testing.T) {
	const forks = "4\n0 1 1\n1 3 1\n0 2 1\n2 3 1"
	for _, c := range []struct {
		text, order        string
		from, to, far, hub int
		e                  api.Errno
	}{
		{four, "", 0, 2, 6, 0, api.OK}, {four, "", 2, 0, 6, 0, api.OK}, {four, "", 1, 2, 1, 1, api.OK}, {four, "", 0, 1, 5, 0, api.OK},
		{four, "", 0, 0, 0, 0, api.OK}, {four, "", 2, 2, 0, 2, api.OK}, {four, "", 3, 3, 0, 3, api.OK},
		{four, "", 0, 3, 0, 0, api.ErrApart}, {four, "", 3, 0, 0, 0, api.ErrApart}, {four, "", 3, 2, 0, 0, api.ErrApart},
		{four, "1 3 0 2", 0, 2, 6, 1, api.OK}, {four, "1 3 0 2", 2, 1, 1, 1, api.OK}, {four, "1 3 0 2", 0, 0, 0, 0, api.OK}, {four, "1 3 0 2", 3, 1, 0, 0, api.ErrApart},
		// the hub is a place, not its rank; of two with the same sum it is the highest
		{forks, "2 1 0 3", 0, 3, 2, 2, api.OK}, {forks, "1 2 0 3", 0, 3, 2, 1, api.OK}, {forks, "3 1 2 0", 0, 3, 2, 3, api.OK}, {forks, "3 1 2 0", 1, 2, 2, 3, api.OK}, {forks, "0 3 1 2", 1, 2, 2, 0, api.OK},
		{"1", "", 0, 0, 0, 0, api.OK},
		{chain(40, 1000), orderText(rising(40)), 39, 0, 39000, 0, api.OK}, {chain(40, 1000), orderText(rising(40)), 39, 20, 19000, 20, api.OK}, {chain(40, 1000), orderText(falling(40)), 5, 20, 15000, 20, api.OK},
	} {
		for cache := 1; cache <= 8; cache++ {
			askFar(t, opened(t, saved(t, c.text, c.order), cache), c.from, c.to, c.far, c.hub, c.e)
		}
	}
}

// noPlaces are no places of a map that has four.
func noPlaces() []int {
	return []int{math.MinInt, math.MinInt + 1, -1 << 32, -256, -40, -4, -1, 4, 5, 39, 40, 41, 255, 256, 259, 1 << 32, math.MaxInt - 1, math.MaxInt}
}

func TestP8FarRefuses(t *testing.T) {
	s := opened(t, saved(t, four, ""), 1)
	for _, no := range noPlaces() {
		for place := range 4 {
			askFar(t, s, no, place, 0, 0, api.ErrNode)
			askFar(t, s, place, no, 0, 0, api.ErrNode)
		}
		for _, other := range noPlaces() {
			askFar(t, s, no, other, 0, 0, api.ErrNode)
		}
	}
	askReads(t, s, 0)
}

func TestP8Around(t *testing.T) {
	star := "5\n0 4 2\n0 3 1\n0 2 2\n0 1 3"
	for _, c := range []struct {
		text    string
		from, n int
		want    []api.Near
	}{
		{four, 1, 9, nearRows([2]int{2, 1}, [2]int{0, 5})}, {four, 1, 40, nearRows([2]int{2, 1}, [2]int{0, 5})}, {four, 1, 2, nearRows([2]int{2, 1}, [2]int{0, 5})}, {four, 1, 1, nearRows([2]int{2, 1})}, {four, 1, 0, nil},
		{four, 0, 3, nearRows([2]int{1, 5}, [2]int{2, 6})}, {four, 3, 40, nil}, {four, 3, 0, nil}, {"1", 0, 40, nil}, {"2", 1, 1, nil}, {"2\n0 1 7", 1, 1, nearRows([2]int{0, 7})},
		{star, 0, 40, nearRows([2]int{3, 1}, [2]int{2, 2}, [2]int{4, 2}, [2]int{1, 3})}, {star, 0, 2, nearRows([2]int{3, 1}, [2]int{2, 2})}, {star, 0, 3, nearRows([2]int{3, 1}, [2]int{2, 2}, [2]int{4, 2})},
		{star, 4, 5, nearRows([2]int{0, 2}, [2]int{3, 3}, [2]int{2, 4}, [2]int{1, 5})}, {star, 4, 4, nearRows([2]int{0, 2}, [2]int{3, 3}, [2]int{2, 4}, [2]int{1, 5})}, {star, 4, 3, nearRows([2]int{0, 2}, [2]int{3, 3}, [2]int{2, 4})},
	} {
		for cache := 1; cache <= 8; cache++ {
			askAround(t, opened(t, saved(t, c.text, ""), cache), c.from, c.n, c.want, api.OK)
		}
	}
}

func TestP8AroundOfTheMostPlaces(t *testing.T) {
	var want []api.Near
	for place := 1; place < 40; place++ {
		want = append(want, api.Near{Place: place, Far: place * 1000})
	}
	s := opened(t, saved(t, chain(40, 1000), ""), 3)
	for n := range 41 {
		askAround(t, s, 0, n, want[:min(n, 39)], api.OK)
	}
}

func TestP8AroundRefuses(t *testing.T) {
	s := opened(t, saved(t, four, ""), 1)
	wrong := []int{math.MinInt, -1 << 32, -40, -1, 41, 42, 256, 1 << 32, 1<<32 + 1, math.MaxInt}
	for _, no := range noPlaces() {
		for _, n := range slices.Concat(wrong, []int{0, 1, 40}) {
			askAround(t, s, no, n, nil, api.ErrNode)
		}
	}
	for place := range 4 {
		for _, n := range wrong {
			askAround(t, s, place, n, nil, api.ErrConf)
		}
	}
	askReads(t, s, 0)
}

// TestP8Reads asks the store of eight places without roads: their labels, of 3 bytes each, begin at
// byte 19, so that those of 0, 1 and 2 fill page 0, and all others lie in page 1.
func TestP8Reads(t *testing.T) {
	s := opened(t, saved(t, "8", ""), 1)
	for _, c := range []struct{ from, to, reads int }{
		{0, 0, 1}, {0, 2, 1}, {2, 1, 1}, {1, 3, 2}, {3, 7, 2}, {3, 2, 3}, {3, 2, 5}, {2, 3, 6},
	} {
		if c.from == c.to {
			askFar(t, s, c.from, c.to, 0, c.from, api.OK)
		} else {
			askFar(t, s, c.from, c.to, 0, 0, api.ErrApart)
		}
		askReads(t, s, c.reads)
	}
	askAround(t, s, 4, 40, nil, api.OK) // page 1 is kept; then page 0, then page 1
	askReads(t, s, 8)
	askAround(t, s, 1, 0, nil, api.OK) // page 0, then page 1, though nothing is asked for
	askReads(t, s, 10)
	askFar(t, s, 8, 0, 0, 0, api.ErrNode)
	askFar(t, s, 0, 8, 0, 0, api.ErrNode)
	askAround(t, s, 0, 41, nil, api.ErrConf)
	askAround(t, s, 8, 1, nil, api.ErrNode)
	askReads(t, s, 10)
	askFar(t, s, 7, 7, 0, 7, api.OK) // what was refused has dropped no page
	askReads(t, s, 10)

	s = opened(t, saved(t, "8", ""), 2)
	for range 5 {
		askFar(t, s, 0, 3, 0, 0, api.ErrApart)
		askAround(t, s, 5, 3, nil, api.OK)
	}
	askReads(t, s, 2)
}

// TestP8ALabelInSeveralPages asks for one that has more pages than are kept.
func TestP8ALabelInSeveralPages(t *testing.T) {
	s := opened(t, saved(t, chain(40, 1000), orderText(rising(40))), 1)
	askFar(t, s, 39, 39, 0, 39, api.OK)
	once := s.Reads() / 2
	if once < 4 {
		t.Fatalf("the label has %d pages", once)
	}
	askReads(t, s, 2*once)
	askFar(t, s, 39, 39, 0, 39, api.OK)
	askReads(t, s, 4*once)
	s = opened(t, saved(t, chain(40, 1000), orderText(rising(40))), once)
	askFar(t, s, 39, 39, 0, 39, api.OK)
	askFar(t, s, 39, 39, 0, 39, api.OK)
	askReads(t, s, once)
}

// model answers as the document's words say, from labels written out.
type model struct {
	order  []int
	labels []api.Label
	cache  int
	kept   []int // the page that was looked at longest ago stands first
	reads  int
}

func (m *model) has(place int) bool { return slices.Contains(m.order, place) }

// bounds tells the first byte of a label and the last one: the labels stand at the end of what is held.
func (m *model) bounds(place int) (int, int) {
	first := len(heldByWords(m.order, m.labels))
	for later := place; later < len(m.order); later++ {
		first -= len(labelByWords(m.order, m.labels, later))
	}
	return first, first + len(labelByWords(m.order, m.labels, place)) - 1
}

func (m *model) look(place int) {
	first, last := m.bounds(place)
	for page := first / 28; page <= last/28; page++ {
		if at := slices.Index(m.kept, page); at >= 0 {
			m.kept = slices.Delete(m.kept, at, at+1)
		} else {
			if len(m.kept) == m.cache {
				m.kept = slices.Delete(m.kept, 0, 1)
			}
			m.reads++
		}
		m.kept = append(m.kept, page)
	}
}

// join tries each hub from the highest to the lowest.
func (m *model) join(from, to int) (int, int, bool) {
	least, by, found := 0, 0, false
	for _, hub := range m.order {
		for _, a := range m.labels {
			for _, b := range m.labels {
				if a.Place == from && b.Place == to && a.Hub == hub && b.Hub == hub && (!found || a.Far+b.Far < least) {
					least, by, found = a.Far+b.Far, hub, true
				}
			}
		}
	}
	return least, by, found
}

func (m *model) far(from, to int) (int, int, api.Errno) {
	if !m.has(from) || !m.has(to) {
		return 0, 0, api.ErrNode
	}
	m.look(from)
	m.look(to)
	far, hub, ok := m.join(from, to)
	if !ok {
		return 0, 0, api.ErrApart
	}
	return far, hub, api.OK
}

func (m *model) around(from, n int) ([]api.Near, api.Errno) {
	if !m.has(from) {
		return nil, api.ErrNode
	}
	if n < 0 || n > 40 {
		return nil, api.ErrConf
	}
	m.look(from)
	sums := map[int]int{}
	for place := range m.order {
		if place != from {
			m.look(place)
			if sum, _, ok := m.join(from, place); ok {
				sums[place] = sum
			}
		}
	}
	// again and again the least one that is left
	var near []api.Near
	for len(near) < n && len(sums) > 0 {
		least := -1
		for place := range m.order {
			if sum, ok := sums[place]; ok && (least < 0 || sum < sums[least]) {
				least = place
			}
		}
		near = append(near, api.Near{Place: least, Far: sums[least]})
		delete(sums, least)
	}
	return near, api.OK
}

// drawLabels draws labels that a store may hold, though they are right for no map.
func drawLabels(r *rand.Rand, order []int) []api.Label {
	most := []int{2, 5, 300}[r.Intn(3)]
	var labels []api.Label
	for place := range order {
		for _, hub := range order[:slices.Index(order, place)] {
			if r.Intn(3) > 0 {
				labels = append(labels, api.Label{Place: place, Hub: hub, Far: 1 + r.Intn(most)})
			}
		}
		labels = append(labels, api.Label{Place: place, Hub: place})
	}
	return labels
}

// drawModel draws a store's labels: those of a map, or others.
func drawModel(r *rand.Rand) model {
	if r.Intn(2) == 0 {
		order := r.Perm(1 + r.Intn(12))
		return model{order: order, labels: drawLabels(r, order), cache: 1 + r.Intn(8)}
	}
	text, places, _ := drawMap(r)
	order := r.Perm(places)
	labels, _, _ := byway.Labels(text, orderText(order))
	return model{order: order, labels: labels, cache: 1 + r.Intn(8)}
}

// askBoth asks the store and the model something, wrong things too.
func askBoth(t *testing.T, r *rand.Rand, s *byway.Store, m *model) {
	t.Helper()
	place := func() int { return r.Intn(len(m.order)+2) - r.Intn(2) }
	if r.Intn(6) > 0 {
		from, to := place(), place()
		far, hub, e := m.far(from, to)
		askFar(t, s, from, to, far, hub, e)
	} else {
		from := place()
		n := r.Intn(len(m.order) + 2)
		if r.Intn(8) == 0 {
			n = []int{-1, 40, 41}[r.Intn(3)]
		}
		near, e := m.around(from, n)
		askAround(t, s, from, n, near, e)
	}
	askReads(t, s, m.reads)
}

func TestP8AgainstTheWords(t *testing.T) {
	r := rand.New(rand.NewSource(8))
	for range 250 {
		m := drawModel(r)
		data := paged(heldByWords(m.order, m.labels))
		s := opened(t, data, m.cache)
		for range 40 {
			askBoth(t, r, s, &m)
			if t.Failed() {
				t.Fatalf("the store of %v, %v, with %d pages", m.order, m.labels, m.cache)
			}
		}
	}
}

// TestP8TheFarthest has a store in which the least sum is as great as may be.
func TestP8TheFarthest(t *testing.T) {
	labels := labelRows([][3]int{{0, 2, 39000}, {0, 0, 0}, {1, 2, 39000}, {1, 1, 0}, {2, 2, 0}})
	s := opened(t, paged(heldByWords([]int{2, 1, 0}, labels)), 1)
	askFar(t, s, 0, 1, 78000, 2, api.OK)
	askAround(t, s, 1, 40, nearRows([2]int{2, 39000}, [2]int{0, 78000}), api.OK)
}

func TestP9FarTellsHowFarItIsOnTheMap(t *testing.T) {
	r := rand.New(rand.NewSource(9))
	for i := range 60 {
		text, places := drawGreatMap(r)
		order := orderText(r.Perm(places))
		if i%3 == 0 {
			order = ""
		}
		s := opened(t, saved(t, text, order), 1+r.Intn(8))
		for from := range places {
			for to := range places {
				_, want, wantE, _ := byway.Route(text, from, to)
				far, hub, e := s.Far(from, to)
				if far != want || e != wantE {
					t.Fatalf("Far(%d, %d) on %q by %q = %d, %d, want %d, %d", from, to, text, order, far, e, want, wantE)
				}
				if e != api.OK {
					continue
				}
				_, there, _, _ := byway.Route(text, from, hub)
				_, onward, _, _ := byway.Route(text, hub, to)
				if there+onward != far {
					t.Fatalf("Far(%d, %d) on %q by %q: the hub %d lies not between", from, to, text, order, hub)
				}
			}
		}
	}
}

// TestP9NoLabelCanBeLeftOut leaves out each label that is not of the place itself; without such a
// one there is no store.
func TestP9NoLabelCanBeLeftOut(t *testing.T) {
	r := rand.New(rand.NewSource(19))
	for range 100 {
		text, places, length := drawMap(r)
		order := r.Perm(places)
		labels, _, _ := byway.Labels(text, orderText(order))
		for at, left := range labels {
			data := paged(heldByWords(order, slices.Delete(slices.Clone(labels), at, at+1)))
			if left.Place == left.Hub {
				open(t, data, 1, api.ErrStore, 0)
				continue
			}
			s := opened(t, data, 1)
			_, want := firstByTrying(places, length, left.Place, left.Hub)
			if far, _, e := s.Far(left.Place, left.Hub); e != api.ErrApart && far <= want {
				t.Fatalf("%q by %v without %v: Far = %d, %d, on the map %d", text, order, left, far, e, want)
			}
		}
	}
}

func TestP1AnyNumbersToAStore(t *testing.T) {
	numbers := slices.Concat(noPlaces(), []int{0, 1, 2, 3})
	r := rand.New(rand.NewSource(18))
	for range 20 {
		m := drawModel(r)
		s := opened(t, paged(heldByWords(m.order, m.labels)), m.cache)
		for _, a := range numbers {
			for _, b := range numbers {
				far, hub, e := s.Far(a, b)
				if e != api.OK && (far != 0 || hub != 0 || e != api.ErrNode && e != api.ErrApart) {
					t.Fatalf("Far(%d, %d) = %d, %d, %d", a, b, far, hub, e)
				}
				near, e := s.Around(a, b)
				if e != api.OK && (len(near) != 0 || e != api.ErrNode && e != api.ErrConf) || len(near) > max(b, 0) {
					t.Fatalf("Around(%d, %d) = %v, %d", a, b, near, e)
				}
				if s.Reads() < 0 {
					t.Fatalf("Reads() = %d", s.Reads())
				}
			}
		}
	}
}

// TestP2AStoreHangsOnItselfAlone asks two stores of the same bytes, and one of others, in turn.
func TestP2AStoreHangsOnItselfAlone(t *testing.T) {
	r := rand.New(rand.NewSource(28))
	for range 50 {
		m := drawModel(r)
		data := paged(heldByWords(m.order, m.labels))
		twin, other := m, drawModel(r)
		twin.cache = 1 + r.Intn(8)
		models := []*model{&m, &twin, &other}
		stores := []*byway.Store{opened(t, data, m.cache), opened(t, data, twin.cache), opened(t, paged(heldByWords(other.order, other.labels)), other.cache)}
		for range 60 {
			i := r.Intn(3)
			askBoth(t, r, stores[i], models[i])
		}
	}
}

func TestP2AListOfAroundIsTheCallers(t *testing.T) {
	s := opened(t, saved(t, chain(40, 3), ""), 2)
	for n := range 41 {
		kept, _ := s.Around(7, n)
		want := slices.Clone(kept)
		spoilt, _ := s.Around(7, n)
		spoilt = spoilt[:cap(spoilt)]
		for i := range spoilt {
			spoilt[i] = api.Near{Place: -7, Far: -7}
		}
		again, _ := s.Around(7, n)
		if len(want) != min(n, 39) || !slices.Equal(kept, want) || !slices.Equal(again, want) {
			t.Errorf("%d places: the list is shared: %v, then %v, want %v", n, kept, again, want)
		}
	}
}

// TestP2CallsComeOneBehindTheOther asks the same of one store from several goroutines. Each answer
// leaves the same pages behind, so that all read as many, unless one comes amid another.
func TestP2CallsComeOneBehindTheOther(t *testing.T) {
	const asked = 8 * 300
	text := chain(40, 1000)
	alone := opened(t, saved(t, text, ""), 2)
	want, _ := alone.Around(20, 40)
	first := alone.Reads()
	alone.Around(20, 40)
	each := alone.Reads() - first

	s := opened(t, saved(t, text, ""), 2)
	var all sync.WaitGroup
	for range 8 {
		all.Go(func() {
			for range asked / 8 {
				if near, e := s.Around(20, 40); !slices.Equal(near, want) || e != api.OK {
					t.Errorf("Around = %v, %d", near, e)
				}
				// as many pages as whole answers read
				if (s.Reads()-first)%each != 0 {
					t.Errorf("Reads() = %d amid an answer", s.Reads())
				}
			}
		})
	}
	all.Wait()
	askReads(t, s, first+(asked-1)*each)
}

func TestP2FarFromSeveralGoroutines(t *testing.T) {
	s := opened(t, saved(t, chain(40, 1000), ""), 1)
	var all sync.WaitGroup
	for from := range 8 {
		all.Go(func() {
			for to := range 40 {
				if far, _, e := s.Far(from*5, to); far != 1000*max(from*5-to, to-from*5) || e != api.OK {
					t.Errorf("Far(%d, %d) = %d, %d", from*5, to, far, e)
				}
				s.Far(from, 40)
				s.Around(from, -1)
			}
		})
	}
	all.Wait()
}
