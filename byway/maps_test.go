package byway_test

import (
	"math"
	"math/rand"
	"slices"
	"strconv"
	"strings"
	"sync"
	"testing"

	"byway/api"
	"byway/byway"
)

// four is the map of the document's first example.
const four = "4\n0 1 5\n1 2 1\n0 2 7"

// full writes a map with so many roads, each as long as told.
func full(places, roads, length int) string {
	var b strings.Builder
	b.WriteString(strconv.Itoa(places))
	for u := range places {
		for v := u + 1; v < places && roads > 0; v++ {
			b.WriteString("\n" + strconv.Itoa(u) + " " + strconv.Itoa(v) + " " + strconv.Itoa(length))
			roads--
		}
	}
	return b.String()
}

// chain writes a map on which each place has a road to the next one.
func chain(places, length int) string {
	text := strconv.Itoa(places)
	for v := 1; v < places; v++ {
		text += "\n" + strconv.Itoa(v-1) + " " + strconv.Itoa(v) + " " + strconv.Itoa(length)
	}
	return text
}

type readCase struct {
	text          string
	places, roads int
	e             api.Errno
	at            int
}

func goodMaps() []readCase {
	return []readCase{
		{"1", 1, 0, api.OK, 0}, {"2", 2, 0, api.OK, 0}, {"9", 9, 0, api.OK, 0}, {"10", 10, 0, api.OK, 0}, {"39", 39, 0, api.OK, 0}, {"40", 40, 0, api.OK, 0},
		{four, 4, 3, api.OK, 0},
		{"2\n0 1 1", 2, 1, api.OK, 0}, {"2\n0 1 1000", 2, 1, api.OK, 0},
		{"40\n38 39 10\n0 39 999", 40, 2, api.OK, 0},
		{"3\n1 2 4\n0 2 4\n0 1 4", 3, 3, api.OK, 0},
		{full(21, 199, 7), 21, 199, api.OK, 0}, {full(40, 200, 1000), 40, 200, api.OK, 0}, {full(20, 190, 1), 20, 190, api.OK, 0},
	}
}

func longMaps() []readCase {
	return []readCase{
		{full(40, 201, 1), 0, 0, api.ErrLong, 0}, {full(40, 300, 1), 0, 0, api.ErrLong, 0},
		{strings.Repeat("\n", 201), 0, 0, api.ErrLong, 0}, {"x" + strings.Repeat("\n", 201), 0, 0, api.ErrLong, 0},
		{"2" + strings.Repeat("\n0 1 5", 201), 0, 0, api.ErrLong, 0},
		{full(40, 200, 1) + "\n", 0, 0, api.ErrLong, 0},
		{strings.Repeat("1", 4001), 0, 0, api.ErrLong, 0}, {strings.Repeat("\n", 4001), 0, 0, api.ErrLong, 0},
		{four + strings.Repeat(" ", 4001-len(four)), 0, 0, api.ErrLong, 0},
		{"2\n0 1 5\n0 1 6\n" + strings.Repeat("x", 4001), 0, 0, api.ErrLong, 0},
	}
}

// almostLongMaps are as long as may be, and wrong in another way.
func almostLongMaps() []readCase {
	return []readCase{
		{strings.Repeat("\n", 200), 0, 0, api.ErrForm, 0}, {"2" + strings.Repeat("\n0 1 5", 200), 0, 0, api.ErrTwice, 2},
		{full(40, 199, 1) + "\n", 0, 0, api.ErrForm, 200}, {full(40, 199, 1) + "\n0 1 1", 0, 0, api.ErrTwice, 200},
		{strings.Repeat("1", 4000), 0, 0, api.ErrForm, 0},
		{four + strings.Repeat(" ", 4000-len(four)), 0, 0, api.ErrForm, 3},
		{"2\n0 1 5\n" + strings.Repeat("0", 3992), 0, 0, api.ErrForm, 2},
	}
}

// wrongMaps have a first line, or a second one, that is none.
func wrongMaps() []readCase {
	var cases []readCase
	for _, first := range []string{
		"", "0", "41", "100", "00", "01", "040", "-1", "-0", "+1", " 1", "1 ", "1 1", "1\r", "\t1", "1.0", "1e1", "0x1", "1_0", "x", "\x00", "\xff", "\u0661",
		"9223372036854775807", "9223372036854775808", "18446744073709551617", "99999999999999999999",
	} {
		cases = append(cases, readCase{first, 0, 0, api.ErrForm, 0}, readCase{first + "\n0 1 5\nx", 0, 0, api.ErrForm, 0})
	}
	for _, line := range []string{
		"", " ", "  ", "0", "0 1", "0 1 ", " 0 1", "0 1 5 ", " 0 1 5", "0  1 5", "0 1  5", "0 1 5 5", "0\t1 5", "0 1\t5", "0 1 5\r", "0 1 5\x00", "0\u00a01 5",
		"1 0 5", "0 0 5", "1 1 5", "2 2 5", "2 1 5", "0 3 5", "3 4 5", "2 3 5", "-1 1 5", "0 -1 5", "+0 1 5", "0 +1 5", "-0 1 5", "00 1 5", "0 01 5", "x 1 5", "0 x 5", "0 1 x",
		"0 1 0", "0 1 1001", "0 1 05", "0 1 -5", "0 1 +5", "0 1 5.0", "0 1 10000", "0,1,5",
		"18446744073709551616 1 5", "0 18446744073709551617 5", "0 1 18446744073709551621", "0 1 9223372036854775807", "0 1 9223372036854775808",
	} {
		cases = append(cases, readCase{"3\n" + line, 0, 0, api.ErrForm, 1}, readCase{"3\n0 2 9\n" + line + "\n0 1 5\nx", 0, 0, api.ErrForm, 2})
	}
	return cases
}

func twiceMaps() []readCase {
	return []readCase{
		{"2\n0 1 5\n0 1 6", 0, 0, api.ErrTwice, 2}, {"2\n0 1 5\n0 1 5", 0, 0, api.ErrTwice, 2},
		{"3\n0 1 5\n1 2 5\n0 2 5\n1 2 6\n0 1 5", 0, 0, api.ErrTwice, 4},
		{"3\n0 1 5\n1 2 5\n0 1 5\n0 1 5", 0, 0, api.ErrTwice, 3},
		// a line that is none is named ahead, though it stands behind
		{"2\n0 1 5\n0 1 6\n1 0 5", 0, 0, api.ErrForm, 3}, {"2\n0 1 5\n0 1 6\n", 0, 0, api.ErrForm, 3},
		{"2\n1 0 5", 0, 0, api.ErrForm, 1},
	}
}

func TestP3Read(t *testing.T) {
	for _, c := range slices.Concat(goodMaps(), longMaps(), almostLongMaps(), wrongMaps(), twiceMaps()) {
		places, roads, e, at := byway.Read(c.text)
		if (readCase{c.text, places, roads, e, at}) != c {
			t.Errorf("Read(%.60q) = %d, %d, %d, %d, want %d, %d, %d, %d", c.text, places, roads, e, at, c.places, c.roads, c.e, c.at)
		}
	}
}

func TestP4RouteHasTheErrorOfReadFirst(t *testing.T) {
	for _, c := range slices.Concat(longMaps(), almostLongMaps(), wrongMaps(), twiceMaps()) {
		for _, ends := range [][2]int{{0, 0}, {0, 1}, {-1, 99}} {
			way, far, e, at := byway.Route(c.text, ends[0], ends[1])
			if len(way) != 0 || far != 0 || e != c.e || at != c.at {
				t.Errorf("Route(%.60q, %v) = %v, %d, %d, %d, want %d, %d", c.text, ends, way, far, e, at, c.e, c.at)
			}
		}
	}
}

func TestP4RouteRefuses(t *testing.T) {
	for _, c := range []struct {
		from, to int
		e        api.Errno
	}{
		{0, 3, api.ErrApart}, {3, 0, api.ErrApart}, {2, 3, api.ErrApart}, {3, 2, api.ErrApart},
		{0, 4, api.ErrNode}, {4, 0, api.ErrNode}, {4, 4, api.ErrNode}, {-1, 0, api.ErrNode}, {0, -1, api.ErrNode}, {-1, -1, api.ErrNode},
		{3, 4, api.ErrNode}, {0, 39, api.ErrNode}, {0, 40, api.ErrNode}, {40, 0, api.ErrNode},
		{math.MaxInt, 0, api.ErrNode}, {0, math.MaxInt, api.ErrNode}, {math.MinInt, 0, api.ErrNode}, {0, math.MinInt, api.ErrNode}, {math.MinInt, math.MinInt, api.ErrNode},
	} {
		if way, far, e, at := byway.Route(four, c.from, c.to); len(way) != 0 || far != 0 || e != c.e || at != 0 {
			t.Errorf("Route from %d to %d = %v, %d, %d, %d, want %d", c.from, c.to, way, far, e, at, c.e)
		}
	}
}

func TestP4RouteGivesTheFirstShortestWay(t *testing.T) {
	const forks = "5\n0 4 4\n0 3 1\n3 4 3\n0 1 2\n1 2 1\n2 4 1"
	all := make([]int, 40)
	for i := range all {
		all[i] = i
	}
	back := slices.Clone(all)
	slices.Reverse(back)
	for _, c := range []struct {
		text     string
		from, to int
		far      int
		way      []int
	}{
		{four, 0, 2, 6, []int{0, 1, 2}}, {four, 2, 0, 6, []int{2, 1, 0}}, {four, 0, 1, 5, []int{0, 1}},
		{four, 0, 0, 0, []int{0}}, {four, 3, 3, 0, []int{3}}, {"1", 0, 0, 0, []int{0}},
		// the lesser place at the first fork, neither the fewest roads nor the last fork
		{forks, 0, 4, 4, []int{0, 1, 2, 4}}, {forks, 4, 0, 4, []int{4, 0}},
		// the same ways, told from either end: each is the first one of its own direction
		{"6\n0 1 1\n0 2 1\n1 4 1\n2 3 1\n4 5 1\n3 5 1", 0, 5, 3, []int{0, 1, 4, 5}},
		{"6\n0 1 1\n0 2 1\n1 4 1\n2 3 1\n4 5 1\n3 5 1", 5, 0, 3, []int{5, 3, 2, 0}},
		{chain(40, 1000), 0, 39, 39000, all}, {chain(40, 1000), 39, 0, 39000, back},
	} {
		if way, far, e, at := byway.Route(c.text, c.from, c.to); !slices.Equal(way, c.way) || far != c.far || e != api.OK || at != 0 {
			t.Errorf("Route(%q, %d, %d) = %v, %d, %d, %d, want %v, %d", c.text, c.from, c.to, way, far, e, at, c.way, c.far)
		}
	}
}

type pair [2]int

// drawMap draws a small map with short roads, so that many ways are as long.
func drawMap(r *rand.Rand) (string, int, map[pair]int) {
	places := 1 + r.Intn(7)
	text := strconv.Itoa(places)
	length := map[pair]int{}
	for u := range places {
		for v := u + 1; v < places; v++ {
			if r.Intn(2) == 0 {
				l := 1 + r.Intn(3)
				text += "\n" + strconv.Itoa(u) + " " + strconv.Itoa(v) + " " + strconv.Itoa(l)
				length[pair{u, v}], length[pair{v, u}] = l, l
			}
		}
	}
	return text, places, length
}

// firstByTrying goes every way without a place twice, those with lesser places ahead.
func firstByTrying(places int, length map[pair]int, from, to int) ([]int, int) {
	var best []int
	least := -1
	var try func(way []int, far int)
	try = func(way []int, far int) {
		at := way[len(way)-1]
		if at == to {
			if least < 0 || far < least {
				best, least = slices.Clone(way), far
			}
			return
		}
		for next := range places {
			if l := length[pair{at, next}]; l > 0 && !slices.Contains(way, next) {
				try(append(slices.Clone(way), next), far+l)
			}
		}
	}
	try([]int{from}, 0)
	return best, least
}

func TestP4RouteAgainstTryingAllWays(t *testing.T) {
	r := rand.New(rand.NewSource(4))
	for range 300 {
		text, places, length := drawMap(r)
		for from := range places {
			for to := range places {
				want, least := firstByTrying(places, length, from, to)
				wantE := api.OK
				if least < 0 {
					wantE, least = api.ErrApart, 0
				}
				if way, far, e, at := byway.Route(text, from, to); !slices.Equal(way, want) || far != least || e != wantE || at != 0 {
					t.Fatalf("Route(%q, %d, %d) = %v, %d, %d, %d, want %v, %d, %d", text, from, to, way, far, e, at, want, least, wantE)
				}
			}
		}
	}
}

// askAnything calls Read and Route, and holds their answers against what P1 says of all answers.
func askAnything(t *testing.T, text string, from, to int) {
	t.Helper()
	places, roads, e, at := byway.Read(text)
	switch {
	case e == api.OK && (places < 1 || places > 40 || roads < 0 || roads > 200 || at != 0):
		t.Fatalf("Read(%q) = %d, %d, OK, %d", text, places, roads, at)
	case e != api.OK && (places != 0 || roads != 0 || at < 0):
		t.Fatalf("Read(%q) = %d, %d, %d, %d", text, places, roads, e, at)
	case e < api.OK || e > api.ErrTwice:
		t.Fatalf("Read(%q) answers %d", text, e)
	}
	way, far, routeE, routeAt := byway.Route(text, from, to)
	switch {
	case e != api.OK && (routeE != e || routeAt != at):
		t.Fatalf("Route(%q) answers %d, %d, Read %d, %d", text, routeE, routeAt, e, at)
	case e == api.OK && (routeE != api.OK && routeE != api.ErrNode && routeE != api.ErrApart || routeAt != 0):
		t.Fatalf("Route(%q, %d, %d) answers %d, %d", text, from, to, routeE, routeAt)
	case routeE != api.OK && (len(way) != 0 || far != 0):
		t.Fatalf("Route(%q, %d, %d) = %v, %d, %d", text, from, to, way, far, routeE)
	case routeE == api.OK && (len(way) == 0 || way[0] != from || way[len(way)-1] != to):
		t.Fatalf("Route(%q, %d, %d) = %v", text, from, to, way)
	}
}

func TestP1AnyTextAndNumbers(t *testing.T) {
	r := rand.New(rand.NewSource(1))
	ends := []int{math.MinInt, -41, -1, 0, 1, 2, 3, 4, 6, 39, 40, 41, math.MaxInt}
	const bytesDrawn = "0123456789 \n-+x\x00\xff"
	for range 20000 {
		text, _, _ := drawMap(r)
		b := []byte(text)
		for range r.Intn(3) {
			at := r.Intn(len(b) + 1)
			b = slices.Insert(b, at, bytesDrawn[r.Intn(len(bytesDrawn))])
			if r.Intn(2) == 0 {
				at = r.Intn(len(b))
				b = slices.Delete(b, at, at+1)
			}
		}
		askAnything(t, string(b), ends[r.Intn(len(ends))], ends[r.Intn(len(ends))])
	}
	for _, c := range slices.Concat(goodMaps(), longMaps(), almostLongMaps(), wrongMaps(), twiceMaps()) {
		for _, from := range ends {
			for _, to := range ends {
				askAnything(t, c.text, from, to)
			}
		}
	}
}

func TestP1TheOtherCallsEnd(t *testing.T) {
	for _, text := range []string{"", "x", "\xff", four, full(40, 200, 1000), strings.Repeat("1", 4001), strings.Repeat("\x00", 60001)} {
		for _, order := range []string{"", "x", "0 1 2 3", "3 3 3 3", strings.Repeat("0 ", 5000)} {
			if l, e, at := byway.Labels(text, order); e != api.OK && len(l) != 0 || e == api.OK && at != 0 {
				t.Errorf("Labels(%.60q, %.60q) = %v, %d, %d", text, order, l, e, at)
			}
			if data, e, at := byway.Save(text, order); e != api.OK && data != "" || e == api.OK && at != 0 {
				t.Errorf("Save(%.60q, %.60q) = %q, %d, %d", text, order, data, e, at)
			}
		}
		for _, cache := range []int{math.MinInt, -1, 0, 1, 8, 9, math.MaxInt} {
			if s, e, at := byway.Open(text, cache); e != api.OK && s != nil || e == api.OK && at != 0 {
				t.Errorf("Open(%.60q, %d) = %v, %d, %d", text, cache, s, e, at)
			}
		}
	}
}

func TestP2AnswersHangOnTheArguments(t *testing.T) {
	check := func() {
		if places, roads, e, at := byway.Read(four); places != 4 || roads != 3 || e != api.OK || at != 0 {
			t.Errorf("Read = %d, %d, %d, %d", places, roads, e, at)
		}
		if way, far, e, at := byway.Route(four, 0, 2); !slices.Equal(way, []int{0, 1, 2}) || far != 6 || e != api.OK || at != 0 {
			t.Errorf("Route = %v, %d, %d, %d", way, far, e, at)
		}
	}
	check()
	for _, c := range slices.Concat(goodMaps(), longMaps(), almostLongMaps(), wrongMaps(), twiceMaps()) {
		byway.Read(c.text)
		byway.Route(c.text, 0, 1)
		check()
	}
	var all sync.WaitGroup
	for range 8 {
		all.Go(func() {
			for range 50 {
				check()
				byway.Route(chain(40, 1000), 39, 0)
			}
		})
	}
	all.Wait()
}

func TestP2AListIsTheCallers(t *testing.T) {
	for to := range 40 {
		text := chain(40, 3)
		kept, _, _, _ := byway.Route(text, 0, to)
		want := slices.Clone(kept)
		spoilt, _, _, _ := byway.Route(text, 0, to)
		spoilt = spoilt[:cap(spoilt)]
		for i := range spoilt {
			spoilt[i] = -7
		}
		again, _, _, _ := byway.Route(text, 0, to)
		if len(want) != to+1 || !slices.Equal(kept, want) || !slices.Equal(again, want) {
			t.Errorf("to %d: the list is shared: %v, then %v, want %v", to, kept, again, want)
		}
	}
}
