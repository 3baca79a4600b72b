package records

import (
	"encoding/hex"
	"slices"
	"strings"
	"testing"

	"byway/api"
)

// labelRows turns rows of a place, a hub and how far it is into labels.
func labelRows(rows [][3]int) []api.Label {
	var labels []api.Label
	for _, row := range rows {
		labels = append(labels, api.Label{Place: row[0], Hub: row[1], Far: row[2]})
	}
	return labels
}

// fromHex turns hexadecimal digits into bytes, blanks left out.
func fromHex(t *testing.T, digits string) string {
	t.Helper()
	b, err := hex.DecodeString(strings.ReplaceAll(digits, " ", ""))
	if err != nil {
		t.Fatal(err)
	}
	return string(b)
}

// filled puts bytes 0 behind, up to a whole page.
func filled(held string) string {
	return held + strings.Repeat("\x00", (28-len(held)%28)%28)
}

// readBack gives the labels that the head tells of, with its order.
func readBack(t *testing.T, held string) ([]int, []api.Label) {
	t.Helper()
	h, ok := Read(filled(held))
	if !ok {
		t.Fatalf("Read(%x): none", held)
	}
	var order []int
	for rank := range h.Places() {
		order = append(order, h.PlaceOf(rank))
	}
	var labels []api.Label
	for place := range h.Places() {
		start, end := h.Bounds(place)
		hubs, ok := ReadLabel(held[start:end])
		if !ok {
			t.Fatalf("ReadLabel(%x): none", held[start:end])
		}
		for _, hub := range hubs {
			labels = append(labels, api.Label{Place: place, Hub: h.PlaceOf(hub.Rank), Far: hub.Far})
		}
	}
	return order, labels
}

func checkRead(t *testing.T, held string, order []int, labels []api.Label) {
	t.Helper()
	gotOrder, gotLabels := readBack(t, held)
	if !slices.Equal(gotOrder, order) || !slices.Equal(gotLabels, labels) {
		t.Errorf("%x is read as %v, %v, want %v, %v", held, gotOrder, gotLabels, order, labels)
	}
}

func TestReadTakesBackWhatWriteGave(t *testing.T) {
	for _, c := range []struct {
		order  []int
		labels [][3]int
		want   string
	}{
		{[]int{0}, [][3]int{{0, 0, 0}}, "6277 01 00 03 010000"},
		{[]int{1, 0}, [][3]int{{0, 0, 0}, {1, 1, 0}}, "6277 02 0100 03 03 010100 010000"},
		{[]int{1, 3, 0, 2}, [][3]int{{0, 1, 5}, {0, 0, 0}, {1, 1, 0}, {2, 1, 1}, {2, 2, 0}, {3, 3, 0}}, "6277 04 01030002 05 03 05 03 02 0005 0100 010000 02 0001 0200 010100"},
		{[]int{2, 0, 1}, [][3]int{{0, 2, 128}, {0, 0, 0}, {1, 2, 39000}, {1, 0, 16384}, {1, 1, 0}, {2, 2, 0}}, "6277 03 020001 06 0b 03 02 008001 0000 03 00d8b002 00808001 0000 010000"},
	} {
		held := Write(c.order, labelRows(c.labels))
		if held != fromHex(t, c.want) {
			t.Errorf("Write(%v, %v) = %x, want %s", c.order, c.labels, held, c.want)
		}
		checkRead(t, held, c.order, labelRows(c.labels))
	}
}

// TestALongLabel has labels of more than 127 bytes: their sizes are counts of two.
func TestALongLabel(t *testing.T) {
	var order []int
	var labels []api.Label
	for place := range 40 {
		order = append(order, place)
		for hub := range place + 1 {
			labels = append(labels, api.Label{Place: place, Hub: hub, Far: min(place-hub, 1) * 39000})
		}
	}
	held := Write(order, labels)
	// the label of place p has 1 + 4*p + 2 bytes: those of 32 and more are sized by two
	if want := 3 + 40 + 32 + 2*8 + 40*3 + 4*780; len(held) != want {
		t.Errorf("%d bytes, want %d", len(held), want)
	}
	checkRead(t, held, order, labels)
	for _, wrong := range []string{filled(held) + strings.Repeat("\x00", 28), filled(held)[:len(filled(held))-28]} {
		if _, ok := Read(wrong); ok {
			t.Errorf("read with %d bytes instead of %d", len(wrong), len(filled(held)))
		}
	}
}

func TestHas(t *testing.T) {
	h, _ := Read(filled(fromHex(t, "6277 02 0100 03 03 010100 010000")))
	for place, has := range map[int]bool{-1 << 63: false, -1: false, 0: true, 1: true, 2: false, 40: false, 1<<63 - 1: false} {
		if h.Has(place) != has {
			t.Errorf("Has(%d) = %v", place, !has)
		}
	}
}

func TestReadRefuses(t *testing.T) {
	for _, digits := range []string{
		"", "00", "62", "6277", "7762 01 00 03 010000", "6276 01 00 03 010000", "4277 01 00 03 010000",
		"6277 00", "6277 29", "6277 ff", "6277 02", "6277 02 00",
		"6277 01 01 03 010000", "6277 02 0101 03 03 010000 010000", "6277 02 0002 03 03 010000 010100", "6277 01 ff 03 010000",
		"6277 01 00", "6277 01 00 80", "6277 01 00 8300 010000", "6277 01 00 00", "6277 01 00 ffff7f 010000",
		"6277 01 00 02 010000", "6277 01 00 04 010000", "6277 02 0001 04 02 010000 0101 00", "6277 02 0001 02 04 010000 010100",
		"6277 01 00 01 00", "6277 01 00 02 0100", "6277 01 00 05 0200000000", "6277 01 00 03 000000", "6277 01 00 03 020000", "6277 01 00 04 01000000", "6277 01 00 04 81000000",
		"6277 01 00 03 010100", "6277 01 00 03 012800", "6277 01 00 05 01ffff7f00", "6277 01 00 03 010001",
		"6277 02 0001 03 05 010000 02 0000 0000", "6277 02 0001 03 07 010000 02 00d9b002 0000", "6277 02 0001 05 03 02 0005 0000 010100",
		"6277 01 00 03 010000 01", "6277 01 00 03 010000 00 80",
	} {
		held := fromHex(t, digits)
		for _, held := range []string{held, filled(held)} {
			if h, ok := Read(held); ok || h.Places() != 0 {
				t.Errorf("Read(%x) = %v, %v", held, h, ok)
			}
		}
	}
}
