package byway_test

import (
	"encoding/hex"
	"math"
	"math/rand"
	"slices"
	"strconv"
	"strings"
	"sync"
	"testing"

	"byway/api"
	"byway/byway"
)

// fromHex turns hexadecimal digits into bytes, blanks left out.
func fromHex(t *testing.T, digits string) string {
	t.Helper()
	b, err := hex.DecodeString(strings.ReplaceAll(digits, " ", ""))
	if err != nil {
		t.Fatal(err)
	}
	return string(b)
}

// sumByWords goes bit by bit, as the document tells it.
func sumByWords(page int, held string) string {
	sum := uint32(4294967295)
	for _, b := range []byte(string([]byte{byte(page / 256), byte(page % 256)}) + held) {
		sum ^= uint32(b)
		for range 8 {
			if sum%2 == 1 {
				sum = sum/2 ^ 3988292384
			} else {
				sum /= 2
			}
		}
	}
	sum = 4294967295 - sum
	return string([]byte{byte(sum >> 24), byte(sum >> 16), byte(sum >> 8), byte(sum)})
}

// paged lays bytes into pages with right sums; bytes 0 fill the last one.
func paged(held string) string {
	data := ""
	for page := 0; page*28 < len(held); page++ {
		part := held[page*28 : min(page*28+28, len(held))]
		part += strings.Repeat("\x00", 28-len(part))
		data += part + sumByWords(page, part)
	}
	return data
}

// heldBy takes the bytes out of pages.
func heldBy(data string) string {
	held := ""
	for ; data != ""; data = data[32:] {
		held += data[:28]
	}
	return held
}

func countByWords(n int) string {
	switch {
	case n < 128:
		return string([]byte{byte(n)})
	case n < 128*128:
		return string([]byte{byte(128 + n%128), byte(n / 128)})
	}
	return string([]byte{byte(128 + n%128), byte(128 + n/128%128), byte(n / 128 / 128)})
}

// labelByWords writes the label of a place.
func labelByWords(order []int, labels []api.Label, place int) string {
	hubs, text, ahead := 0, "", -1
	for _, label := range labels {
		if label.Place == place {
			rank := slices.Index(order, label.Hub)
			text += countByWords(rank-ahead-1) + countByWords(label.Far)
			ahead = rank
			hubs++
		}
	}
	return countByWords(hubs) + text
}

// heldByWords writes what a store holds, without the bytes that fill the last page.
func heldByWords(order []int, labels []api.Label) string {
	held := "bw" + string([]byte{byte(len(order))})
	for _, place := range order {
		held += string([]byte{byte(place)})
	}
	behind := ""
	for place := range len(order) {
		text := labelByWords(order, labels, place)
		held += countByWords(len(text))
		behind += text
	}
	return held + behind
}

func TestP6Save(t *testing.T) {
	for _, c := range []struct{ text, order, held string }{
		{"1", "", "6277 01 00 03 010000"}, {"1", "0", "6277 01 00 03 010000"},
		{"2", "", "6277 02 0001 03 03 010000 010100"}, {"2", "1 0", "6277 02 0100 03 03 010100 010000"},
		{"2\n0 1 1", "", "6277 02 0001 03 05 010000 02 0001 0000"}, {"2\n0 1 127", "", "6277 02 0001 03 05 010000 02 007f 0000"},
		{"2\n0 1 128", "1 0", "6277 02 0100 06 03 02 008001 0000 010000"}, {"2\n0 1 1000", "", "6277 02 0001 03 06 010000 02 00e807 0000"},
		{four, "", "6277 04 00010203 03 05 07 03 010000 02 0005 0000 03 0006 0001 0000 010300"},
		{four, "1 3 0 2", "6277 04 01030002 05 03 05 03 02 0005 0100 010000 02 0001 0200 010100"},
	} {
		want := paged(fromHex(t, c.held))
		if data, e, at := byway.Save(c.text, c.order); data != want || e != api.OK || at != 0 {
			t.Errorf("Save(%q, %q) = %x, %d, %d, want %x", c.text, c.order, data, e, at, want)
		}
	}
	// the document's second example, with its sum written out
	want := fromHex(t, "6277010003010000"+strings.Repeat("00", 20)+"ee34d568")
	if data, e, at := byway.Save("1", ""); data != want || e != api.OK || at != 0 {
		t.Errorf("Save(1) = %x, %d, %d, want %x", data, e, at, want)
	}
}

// TestP6SaveOfTheGreatestChain has counts of one, two and three bytes, and more than 100 pages.
func TestP6SaveOfTheGreatestChain(t *testing.T) {
	for _, order := range [][]int{rising(40), falling(40)} {
		text := chain(40, 1000)
		labels, _, _ := byway.Labels(text, orderText(order))
		want := paged(heldByWords(order, labels))
		if data, e, at := byway.Save(text, orderText(order)); data != want || len(data) < 100*32 || e != api.OK || at != 0 {
			t.Errorf("Save of a chain by %v: %d bytes, %d, %d, want %d", order, len(data), e, at, len(want))
		}
	}
}

// drawGreatMap draws a map of up to 40 places, with lengths of one to four digits.
func drawGreatMap(r *rand.Rand) (string, int) {
	places := 1 + r.Intn(40)
	text := strconv.Itoa(places)
	most := []int{9, 150, 1000}[r.Intn(3)]
	roads := 0
	for u := range places {
		for v := u + 1; v < places && roads < 200; v++ {
			if r.Intn(places) < 4 {
				text += "\n" + strconv.Itoa(u) + " " + strconv.Itoa(v) + " " + strconv.Itoa(1+r.Intn(most))
				roads++
			}
		}
	}
	return text, places
}

func TestP6SaveAgainstTheWords(t *testing.T) {
	r := rand.New(rand.NewSource(6))
	for range 200 {
		text, places := drawGreatMap(r)
		order := r.Perm(places)
		labels, e, _ := byway.Labels(text, orderText(order))
		if e != api.OK {
			t.Fatalf("Labels(%q): %d", text, e)
		}
		want := paged(heldByWords(order, labels))
		if data, e, at := byway.Save(text, orderText(order)); data != want || e != api.OK || at != 0 {
			t.Fatalf("Save(%q, %v) = %x, %d, %d, want %x", text, order, data, e, at, want)
		}
	}
	for range 200 {
		text, places, length := drawMap(r)
		order := orderByWords(places, length)
		want := paged(heldByWords(order, labelsByWords(places, length, order)))
		if data, e, at := byway.Save(text, ""); data != want || e != api.OK || at != 0 {
			t.Fatalf("Save(%q) = %x, %d, %d, want %x", text, data, e, at, want)
		}
	}
}

func TestP6SaveRefuses(t *testing.T) {
	for _, order := range wrongOrders() {
		if data, e, at := byway.Save(four, order); data != "" || e != api.ErrOrder || at != 0 {
			t.Errorf("Save by %.40q = %x, %d, %d", order, data, e, at)
		}
	}
	for _, c := range slices.Concat(longMaps(), almostLongMaps(), wrongMaps(), twiceMaps()) {
		for _, order := range []string{"", "0 1", "0 1 2", "x"} {
			if data, e, at := byway.Save(c.text, order); data != "" || e != c.e || at != c.at {
				t.Errorf("Save(%.60q, %q) = %x, %d, %d, want %d, %d", c.text, order, data, e, at, c.e, c.at)
			}
		}
	}
}

// open asks Open, which must answer the error and the place that are told.
func open(t *testing.T, data string, cache int, e api.Errno, at int) {
	t.Helper()
	s, gotE, gotAt := byway.Open(data, cache)
	if (s != nil) != (e == api.OK) || gotE != e || gotAt != at {
		t.Errorf("Open(%.200x, %d) = %v, %d, %d, want %d, %d", data, cache, s != nil, gotE, gotAt, e, at)
	}
	if s != nil && s.Reads() != 0 {
		t.Errorf("Open(%.200x, %d): a store that has read %d pages", data, cache, s.Reads())
	}
}

func saved(t *testing.T, text, order string) string {
	t.Helper()
	data, e, _ := byway.Save(text, order)
	if e != api.OK || data == "" {
		t.Fatalf("Save(%q, %q): %d", text, order, e)
	}
	return data
}

func TestP7OpenOfWhatWasSaved(t *testing.T) {
	for cache := 1; cache <= 8; cache++ {
		for _, c := range goodMaps() {
			open(t, saved(t, c.text, ""), cache, api.OK, 0)
		}
		open(t, saved(t, chain(40, 1000), orderText(rising(40))), cache, api.OK, 0)
		open(t, saved(t, chain(40, 1000), orderText(falling(40))), cache, api.OK, 0)
	}
	r := rand.New(rand.NewSource(7))
	for range 200 {
		text, places := drawGreatMap(r)
		open(t, saved(t, text, orderText(r.Perm(places))), 1+r.Intn(8), api.OK, 0)
	}
}

func TestP7OpenRefusesInThisOrder(t *testing.T) {
	data := saved(t, four, "")
	long := strings.Repeat(data, 60000/len(data)+1)
	for _, cache := range []int{0, 9, 10, -1, -8, 257, 1<<32 + 1, math.MinInt, math.MaxInt} {
		for _, data := range []string{data, "", "x", long, data[:32] + "x", strings.Repeat("x", 32), paged("x")} {
			open(t, data, cache, api.ErrConf, 0)
		}
	}
	for _, long := range []string{long[:60001], long, strings.Repeat("x", 60001), strings.Repeat("x", 60032), strings.Repeat("\x00", 1<<20)} {
		open(t, long, 1, api.ErrLong, 0)
	}
	for size := range 100 {
		if size%32 != 0 || size == 0 {
			open(t, strings.Repeat("x", size), 1, api.ErrStore, 0)
			open(t, (data + data)[:size], 8, api.ErrStore, 0)
		}
	}
	open(t, long[:59999], 1, api.ErrStore, 0)
	open(t, long[:60000], 1, api.ErrSum, 2)
	open(t, strings.Repeat("x", 60000), 1, api.ErrSum, 0)
	open(t, paged("x")+paged("x"), 1, api.ErrSum, 1)
	open(t, paged("x"), 1, api.ErrStore, 0)
	open(t, paged(strings.Repeat("x", 28*1875)), 1, api.ErrStore, 0)
}

func TestP7OpenTellsTheFirstWrongPage(t *testing.T) {
	for _, data := range []string{saved(t, "1", ""), saved(t, four, ""), saved(t, chain(12, 700), "")} {
		for at := range len(data) {
			for bit := range 8 {
				changed := []byte(data)
				changed[at] ^= 1 << bit
				open(t, string(changed), 1, api.ErrSum, at/32)
				changed[len(data)-1] ^= 3
				open(t, string(changed), 1, api.ErrSum, at/32)
			}
		}
	}
	data := saved(t, four, "")
	open(t, data[:32], 1, api.ErrStore, 0)
	open(t, data[32:], 1, api.ErrSum, 0)
	open(t, data[32:]+data[:32], 1, api.ErrSum, 0)
	open(t, data[:32]+data[:32], 1, api.ErrSum, 1)
	open(t, data+data[32:], 1, api.ErrSum, 2)
	// the higher byte of a page's number is in its sum too
	far := []byte(paged(strings.Repeat("y", 28*600)))
	copy(far[300*32:], far[44*32:45*32])
	open(t, string(far), 1, api.ErrSum, 300)
}

// TestP9OpenTellsChangesInOnePage changes the sum alone, or up to four bytes in a row of what is held.
func TestP9OpenTellsChangesInOnePage(t *testing.T) {
	r := rand.New(rand.NewSource(17))
	data := saved(t, chain(30, 900), "")
	for range 20000 {
		page := r.Intn(len(data) / 32)
		start := page*32 + r.Intn(25)
		if r.Intn(3) == 0 {
			start = page*32 + 28
		}
		changed := []byte(data)
		for i := start; i < start+4; i++ {
			changed[i] = byte(r.Intn(256))
		}
		if string(changed) != data {
			open(t, string(changed), 1, api.ErrSum, page)
		}
	}
}

func TestP7OpenOfOtherLabels(t *testing.T) {
	for _, digits := range []string{
		"6277 02 0001 03 05 010000 02 0001 0000",
		"6277 02 0001 03 07 010000 02 00d8b002 0000", // 39000, on no map of two places
		"6277 02 0001 03 05 010000 02 007f 0000",
		"6277 02 0001 03 07 010000 02 00808001 0000",
		"6277 03 020001 05 07 03 02 0007 0000 03 0009 0001 0000 010000",
		"6277 03 000102 03 03 03 010000 010100 010200",
	} {
		open(t, paged(fromHex(t, digits)), 1, api.OK, 0)
	}
}

func TestP7OpenRefusesWhatIsHeld(t *testing.T) {
	for _, digits := range []string{
		"00", "62", "6277", "62 01 00 03 010000", "7762 01 00 03 010000", "6276 01 00 03 010000", "6377 01 00 03 010000", "4257 01 00 03 010000",
		// places
		"6277 00", "6277 00 00 03 010000", "6277 29 00 03 010000", "6277 ff 00 03 010000", "6277 02 00 03 010000",
		// the order
		"6277 01 01 03 010000", "6277 01 80 03 010000", "6277 02 0000 03 03 010000 010000", "6277 02 0101 03 03 010100 010000", "6277 02 0002 03 03 010000 010100", "6277 02 0201 03 03 010000 010100",
		// how many bytes a label has
		"6277 01 00 00", "6277 01 00 00 010000", "6277 01 00 01 010000", "6277 01 00 02 010000", "6277 01 00 04 010000", "6277 01 00 17 010000", "6277 01 00 18 010000", "6277 01 00 7f 010000",
		"6277 01 00 8300 010000", "6277 01 00 838000 010000", "6277 01 00 838001 010000", "6277 01 00 ffff7f 010000", "6277 01 00 83808000 010000", "6277 01 00 ffffffffffffffffff01 010000",
		"6277 02 0001 04 02 010000 010100", "6277 02 0001 02 04 010000 010100", "6277 02 0001 06 02 010000 02 0005 0000", "6277 02 0001 05 03 010000 02 0005 0000",
		// how many hubs
		"6277 01 00 01 00", "6277 01 00 03 000000", "6277 01 00 03 020000", "6277 01 00 04 01000000", "6277 01 00 05 0100000000", "6277 01 00 05 0200000000", "6277 01 00 05 0300000000",
		"6277 01 00 04 81000000", "6277 01 00 05 8180000000", "6277 01 00 03 7f0000", "6277 01 00 05 ffff7f0000",
		// how many places lie between hubs
		"6277 01 00 03 010100", "6277 01 00 03 017f00", "6277 01 00 04 01800100", "6277 01 00 04 01800000", "6277 01 00 05 01ffff7f00", "6277 02 0001 03 03 010100 010000", "6277 02 0001 03 03 010000 010000", "6277 02 0001 03 03 010000 010200",
		"6277 02 0001 03 05 010000 02 0005 0100", "6277 02 0001 03 05 010000 02 0105 0000", "6277 02 0001 05 03 02 0000 0005 010100", "6277 02 0001 05 03 02 0005 0000 010100", "6277 02 0001 05 03 02 0100 0000 010100",
		// how far
		"6277 01 00 03 010001", "6277 01 00 04 01008001", "6277 01 00 04 01008000", "6277 02 0001 03 05 010000 02 0000 0000", "6277 02 0001 03 05 010000 02 0005 0005", "6277 02 0001 03 05 010000 02 0005 0001",
		"6277 02 0001 03 07 010000 02 00d9b002 0000", "6277 02 0001 03 07 010000 02 00ffff7f 0000", "6277 02 0001 03 08 010000 02 0080808001 0000", "6277 02 0001 03 06 010000 02 008500 0000", "6277 02 0001 03 07 010000 02 00858000 0000", "6277 02 0001 03 07 010000 02 00ffffff 0000",
		// what is behind the labels
		"6277 01 00 03 010000 01", "6277 01 00 03 010000 0000 80", "6277 01 00 03 010000 00000000000000000000000000000000000000 01", "6277 01 00 03 010000 0000000000000000000000000000000000000000 00",
	} {
		open(t, paged(fromHex(t, digits)), 1, api.ErrStore, 0)
	}
}

// TestP7OpenCountsPlaces has labels that are right but for how many places there are.
func TestP7OpenCountsPlaces(t *testing.T) {
	for places := range 50 {
		var labels []api.Label
		for place := range places {
			labels = append(labels, api.Label{Place: place, Hub: place})
		}
		e := api.OK
		if places < 1 || places > 40 {
			e = api.ErrStore
		}
		open(t, paged(heldByWords(falling(places), labels)), 1, e, 0)
	}
}

// TestP7OpenAsksForTheLastPage goes through stores whose labels end at each byte of a page.
func TestP7OpenAsksForTheLastPage(t *testing.T) {
	seen := map[int]bool{}
	r := rand.New(rand.NewSource(27))
	for range 400 {
		text, places := drawGreatMap(r)
		order := r.Perm(places)
		labels, _, _ := byway.Labels(text, orderText(order))
		held := heldByWords(order, labels)
		fill := (28 - len(held)%28) % 28
		seen[fill] = true
		whole := held + strings.Repeat("\x00", fill)
		data := paged(whole)
		open(t, data, 8, api.OK, 0)
		open(t, data[:len(data)-32], 8, api.ErrStore, 0)
		open(t, paged(whole+strings.Repeat("\x00", 28)), 8, api.ErrStore, 0)
		for i := len(held); i < len(whole); i++ {
			changed := []byte(whole)
			changed[i] = byte(1 + r.Intn(255))
			open(t, paged(string(changed)), 8, api.ErrStore, 0)
		}
	}
	if len(seen) != 28 {
		t.Errorf("only %d ways to fill the last page", len(seen))
	}
}

// takeCount reads a count that may have more bytes than it needs.
func takeCount(text *string) int {
	n, unit := 0, 1
	for {
		b := int((*text)[0])
		*text = (*text)[1:]
		n += b % 128 * unit
		if b < 128 {
			return n
		}
		unit *= 128
	}
}

// isHeldByWords reads bytes without asking much, and then asks whether they are what must be written for it.
func isHeldByWords(held string) (is bool) {
	// what ends too early, or names a place that there is not, panics
	defer func() {
		if recover() != nil {
			is = false
		}
	}()
	var order []int
	for _, b := range []byte(held[3 : 3+int(held[2])]) {
		order = append(order, int(b))
	}
	if places := slices.Sorted(slices.Values(order)); len(order) < 1 || len(order) > 40 || !slices.Equal(places, rising(len(order))) {
		return false
	}
	rest := held[3+len(order):]
	for range order {
		takeCount(&rest)
	}
	var labels []api.Label
	for place := range len(order) {
		rank, far := -1, 0
		for range takeCount(&rest) {
			rank += 1 + takeCount(&rest)
			far = takeCount(&rest)
			if far > 39000 || (far == 0) != (order[rank] == place) {
				return false
			}
			labels = append(labels, api.Label{Place: place, Hub: order[rank], Far: far})
		}
		if order[rank] != place {
			return false
		}
	}
	written := heldByWords(order, labels)
	return held == written+strings.Repeat("\x00", (28-len(written)%28)%28)
}

func TestP7OpenAgainstTheWords(t *testing.T) {
	r := rand.New(rand.NewSource(37))
	opened := 0
	for i := range 30000 {
		text, places, _ := drawMap(r)
		if i%10 == 0 {
			text, places = drawGreatMap(r)
		}
		held := []byte(heldBy(saved(t, text, orderText(r.Perm(places)))))
		for range 1 + r.Intn(3) {
			at := r.Intn(len(held))
			switch r.Intn(4) {
			case 0:
				held[at] = byte(r.Intn(256))
			case 1:
				held[at] += byte(1 - 2*r.Intn(2))
			case 2:
				held = slices.Insert(held, at, byte(r.Intn(3)))
			case 3:
				held = slices.Delete(held, at, at+1)
			}
		}
		held = append(held, make([]byte, (28-len(held)%28)%28)...)
		if isHeldByWords(string(held)) {
			opened++
			open(t, paged(string(held)), 8, api.OK, 0)
		} else {
			open(t, paged(string(held)), 8, api.ErrStore, 0)
		}
	}
	if opened < 500 || opened > 25000 {
		t.Errorf("%d of 30000 were stores", opened)
	}
}

func TestP1OpenOfAnyBytes(t *testing.T) {
	r := rand.New(rand.NewSource(47))
	for range 20000 {
		held := make([]byte, 28*(1+r.Intn(4)))
		for i := range held {
			held[i] = []byte{0, 1, 2, 3, 4, 5, 127, 128, 255, byte(r.Intn(256))}[r.Intn(10)]
		}
		copy(held, "bw")
		held[2] = byte(1 + r.Intn(3))
		if s, e, at := byway.Open(paged(string(held)), 1); (s != nil) != (e == api.OK) || e != api.OK && e != api.ErrStore || at != 0 {
			t.Fatalf("Open of %x = %v, %d, %d", held, s, e, at)
		}
	}
	for range 2000 {
		data := make([]byte, r.Intn(200))
		r.Read(data)
		s, e, _ := byway.Open(string(data), r.Intn(12)-1)
		if s != nil || e != api.ErrConf && e != api.ErrStore && e != api.ErrSum {
			t.Fatalf("Open(%x) = %v, %d", data, s, e)
		}
	}
}

func TestP2SaveAndOpenHangOnTheArguments(t *testing.T) {
	want := paged(fromHex(t, "6277 04 01030002 05 03 05 03 02 0005 0100 010000 02 0001 0200 010100"))
	check := func() {
		if data, e, at := byway.Save(four, "1 3 0 2"); data != want || e != api.OK || at != 0 {
			t.Errorf("Save = %x, %d, %d", data, e, at)
		}
		open(t, want, 3, api.OK, 0)
		open(t, want[:32]+strings.Repeat("x", 32), 3, api.ErrSum, 1)
	}
	check()
	for _, c := range slices.Concat(goodMaps(), wrongMaps(), twiceMaps()) {
		data, _, _ := byway.Save(c.text, "")
		byway.Open(data, 0)
		byway.Open(data, 1)
		byway.Open(data+"x", 1)
		check()
	}
	var all sync.WaitGroup
	for range 8 {
		all.Go(func() {
			for range 20 {
				check()
				byway.Save(chain(40, 1000), "")
			}
		})
	}
	all.Wait()
}
