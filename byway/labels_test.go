package byway_test

import (
	"math/rand"
	"slices"
	"strconv"
	"strings"
	"sync"
	"testing"

	"byway/api"
	"byway/byway"
)

// orderText writes an order.
func orderText(places []int) string {
	words := make([]string, len(places))
	for i, place := range places {
		words[i] = strconv.Itoa(place)
	}
	return strings.Join(words, " ")
}

// rising gives the places from 0 on.
func rising(places int) []int {
	all := make([]int, places)
	for i := range all {
		all[i] = i
	}
	return all
}

func falling(places int) []int {
	all := rising(places)
	slices.Reverse(all)
	return all
}

// labelRows turns rows of a place, a hub and how far it is into labels.
func labelRows(rows [][3]int) []api.Label {
	var labels []api.Label
	for _, row := range rows {
		labels = append(labels, api.Label{Place: row[0], Hub: row[1], Far: row[2]})
	}
	return labels
}

func TestP5Labels(t *testing.T) {
	byFirst := [][3]int{{0, 0, 0}, {1, 0, 5}, {1, 1, 0}, {2, 0, 6}, {2, 1, 1}, {2, 2, 0}, {3, 3, 0}}
	for _, c := range []struct {
		text, order string
		want        [][3]int
	}{
		{four, "", byFirst}, {four, "0 1 2 3", byFirst},
		{four, "1 3 0 2", [][3]int{{0, 1, 5}, {0, 0, 0}, {1, 1, 0}, {2, 1, 1}, {2, 2, 0}, {3, 3, 0}}},
		{four, "3 2 1 0", [][3]int{{0, 2, 6}, {0, 1, 5}, {0, 0, 0}, {1, 2, 1}, {1, 1, 0}, {2, 2, 0}, {3, 3, 0}}},
		{"1", "", [][3]int{{0, 0, 0}}}, {"1", "0", [][3]int{{0, 0, 0}}},
		{"3", "2 0 1", [][3]int{{0, 0, 0}, {1, 1, 0}, {2, 2, 0}}},
		// the empty order: 2 has three roads, 1 and 3 two, 0, 4 and 5 one
		{"6\n2 3 1\n1 2 1\n2 4 1\n0 1 1\n3 5 1000", "", [][3]int{
			{0, 2, 2}, {0, 1, 1}, {0, 0, 0}, {1, 2, 1}, {1, 1, 0}, {2, 2, 0},
			{3, 2, 1}, {3, 3, 0}, {4, 2, 1}, {4, 4, 0}, {5, 2, 1001}, {5, 3, 1000}, {5, 5, 0},
		}},
		// one of several shortest ways goes by a higher place: that is enough
		{"4\n0 1 1\n1 3 1\n0 2 1\n2 3 1", "2 0 3 1", [][3]int{
			{0, 2, 1}, {0, 0, 0}, {1, 2, 2}, {1, 0, 1}, {1, 3, 1}, {1, 1, 0}, {2, 2, 0}, {3, 2, 1}, {3, 3, 0},
		}},
	} {
		if labels, e, at := byway.Labels(c.text, c.order); !slices.Equal(labels, labelRows(c.want)) || e != api.OK || at != 0 {
			t.Errorf("Labels(%q, %q) = %v, %d, %d, want %v", c.text, c.order, labels, e, at, c.want)
		}
	}
}

func TestP5LabelsOfTheGreatestChain(t *testing.T) {
	var up, down []api.Label
	for place := range 40 {
		for hub := 0; hub <= place; hub++ {
			up = append(up, api.Label{Place: place, Hub: hub, Far: (place - hub) * 1000})
		}
		for hub := 39; hub >= place; hub-- {
			down = append(down, api.Label{Place: place, Hub: hub, Far: (hub - place) * 1000})
		}
	}
	if labels, e, at := byway.Labels(chain(40, 1000), orderText(rising(40))); !slices.Equal(labels, up) || e != api.OK || at != 0 {
		t.Errorf("rising: %v, %d, %d", labels, e, at)
	}
	if labels, e, at := byway.Labels(chain(40, 1000), orderText(falling(40))); !slices.Equal(labels, down) || e != api.OK || at != 0 {
		t.Errorf("falling: %v, %d, %d", labels, e, at)
	}
}

func wrongOrders() []string {
	return []string{
		" ", "  ", "0", "0 1", "0 1 2", "0 1 2 3 0", "0 1 2 3 4", "0 1 2 2", "0 0 0 0", "0 1 2 4", "1 2 3 4", "0 1 2 -1", "0 1 2 -3", "-0 1 2 3", "+0 1 2 3", "0 1 2 03", "00 1 2 3",
		"0 1 2 3 ", " 0 1 2 3", "0  1 2 3", "0 1 2  3", "0 1 2  ", "0 1 2 3\n", "\n", "0\n1\n2\n3", "0\t1\t2\t3", "0,1,2,3", "0123", "0 1 2 x", "0 1 2 3.0", "0 1 2 3\x00", "0 1 2 \u0663", "x", "\x00", "\xff",
		"0 1 2 18446744073709551619", "0 1 2 9223372036854775807", "0 1 2 9223372036854775808", strings.Repeat("0 ", 100000), strings.Repeat(" ", 100000), strings.Repeat("1", 100000),
	}
}

func TestP5LabelsRefuses(t *testing.T) {
	for _, order := range wrongOrders() {
		if labels, e, at := byway.Labels(four, order); len(labels) != 0 || e != api.ErrOrder || at != 0 {
			t.Errorf("Labels by %.40q = %v, %d, %d", order, labels, e, at)
		}
	}
	for _, c := range slices.Concat(longMaps(), almostLongMaps(), wrongMaps(), twiceMaps()) {
		for _, order := range []string{"", "0 1", "0 1 2", "x"} {
			if labels, e, at := byway.Labels(c.text, order); len(labels) != 0 || e != c.e || at != c.at {
				t.Errorf("Labels(%.60q, %q) = %v, %d, %d, want %d, %d", c.text, order, labels, e, at, c.e, c.at)
			}
		}
	}
}

// rulesOut tells whether a place higher than hub is on some shortest way between place and hub.
func rulesOut(far [][]int, place, hub int, higher []int) bool {
	return slices.ContainsFunc(higher, func(x int) bool {
		return far[place][x] >= 0 && far[x][hub] >= 0 && far[place][x]+far[x][hub] == far[place][hub]
	})
}

// labelsByWords goes by the document's words, and by how far it is along all ways tried out.
func labelsByWords(places int, length map[pair]int, order []int) []api.Label {
	far := make([][]int, places)
	for from := range far {
		far[from] = make([]int, places)
		for to := range places {
			_, far[from][to] = firstByTrying(places, length, from, to)
		}
	}
	var labels []api.Label
	for place := range places {
		for rank, hub := range order {
			if far[place][hub] >= 0 && !rulesOut(far, place, hub, order[:rank]) {
				labels = append(labels, api.Label{Place: place, Hub: hub, Far: far[place][hub]})
			}
		}
	}
	return labels
}

// orderByWords gives the empty order: again and again the first one left of those with the most roads.
func orderByWords(places int, length map[pair]int) []int {
	var order []int
	for roads := places; roads >= 0; roads-- {
		for place := range places {
			has := 0
			for ends := range length {
				if ends[0] == place {
					has++
				}
			}
			if has == roads {
				order = append(order, place)
			}
		}
	}
	return order
}

func TestP5LabelsAgainstTheWords(t *testing.T) {
	r := rand.New(rand.NewSource(5))
	for range 300 {
		text, places, length := drawMap(r)
		order := r.Perm(places)
		want := labelsByWords(places, length, order)
		if labels, e, at := byway.Labels(text, orderText(order)); !slices.Equal(labels, want) || e != api.OK || at != 0 {
			t.Fatalf("Labels(%q, %v) = %v, %d, %d, want %v", text, order, labels, e, at, want)
		}
		want = labelsByWords(places, length, orderByWords(places, length))
		if labels, e, at := byway.Labels(text, ""); !slices.Equal(labels, want) || e != api.OK || at != 0 {
			t.Fatalf("Labels(%q) = %v, %d, %d, want %v", text, labels, e, at, want)
		}
	}
}

func TestP1LabelsOfAnyTextAndOrder(t *testing.T) {
	r := rand.New(rand.NewSource(15))
	const bytesDrawn = "0123456789 \n-+x\x00\xff"
	for range 5000 {
		text, places, _ := drawMap(r)
		order := []byte(orderText(r.Perm(places)))
		for range r.Intn(3) {
			order = slices.Insert(order, r.Intn(len(order)+1), bytesDrawn[r.Intn(len(bytesDrawn))])
			if at := r.Intn(len(order)); r.Intn(2) == 0 {
				order = slices.Delete(order, at, at+1)
			}
		}
		labels, e, at := byway.Labels(text, string(order))
		switch {
		case e == api.OK && (len(labels) < places || at != 0):
			t.Fatalf("Labels(%q, %q) = %v, OK, %d", text, order, labels, at)
		case e != api.OK && (e != api.ErrOrder || len(labels) != 0 || at != 0):
			t.Fatalf("Labels(%q, %q) = %v, %d, %d", text, order, labels, e, at)
		}
	}
	for _, text := range []string{"", "1", "x", four, full(40, 200, 1000), strings.Repeat("9", 4001)} {
		_, _, readE, readAt := byway.Read(text)
		for _, order := range wrongOrders() {
			labels, e, at := byway.Labels(text, order)
			if readE != api.OK && (len(labels) != 0 || e != readE || at != readAt) || e != api.OK && len(labels) != 0 || readE == api.OK && at != 0 {
				t.Errorf("Labels(%.60q, %.40q) = %v, %d, %d", text, order, labels, e, at)
			}
		}
	}
}

func TestP2LabelsHangOnTheArguments(t *testing.T) {
	want := labelRows([][3]int{{0, 1, 5}, {0, 0, 0}, {1, 1, 0}, {2, 1, 1}, {2, 2, 0}, {3, 3, 0}})
	check := func() {
		if labels, e, at := byway.Labels(four, "1 3 0 2"); !slices.Equal(labels, want) || e != api.OK || at != 0 {
			t.Errorf("Labels = %v, %d, %d", labels, e, at)
		}
	}
	check()
	for _, c := range slices.Concat(goodMaps(), wrongMaps(), twiceMaps()) {
		byway.Labels(c.text, "")
		check()
	}
	for _, order := range wrongOrders() {
		byway.Labels(four, order)
		check()
	}
	var all sync.WaitGroup
	for range 8 {
		all.Go(func() {
			for range 20 {
				check()
				byway.Labels(chain(40, 1000), "")
			}
		})
	}
	all.Wait()
}

func TestP2AListOfLabelsIsTheCallers(t *testing.T) {
	for places := 1; places <= 40; places++ {
		text := chain(places, 3)
		kept, _, _ := byway.Labels(text, "")
		want := slices.Clone(kept)
		spoilt, _, _ := byway.Labels(text, "")
		spoilt = spoilt[:cap(spoilt)]
		for i := range spoilt {
			spoilt[i] = api.Label{Place: -7, Hub: -7, Far: -7}
		}
		again, _, _ := byway.Labels(text, "")
		if len(want) < places || !slices.Equal(kept, want) || !slices.Equal(again, want) {
			t.Errorf("%d places: the list is shared: %v, then %v, want %v", places, kept, again, want)
		}
	}
}
