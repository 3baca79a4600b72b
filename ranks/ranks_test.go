package ranks

import (
	"slices"
	"strings"
	"testing"

	"byway/api"
	"byway/atlas"
)

func parseMap(t *testing.T, text string) *atlas.Map {
	t.Helper()
	m, e, _ := atlas.Parse(text)
	if e != api.OK {
		t.Fatalf("Parse(%q): %d", text, e)
	}
	return m
}

func TestParseReadsAnOrder(t *testing.T) {
	for _, c := range []struct {
		text, order string
		want        []int
	}{
		{"1", "0", []int{0}}, {"2", "0 1", []int{0, 1}}, {"2", "1 0", []int{1, 0}},
		{"4\n0 1 5\n1 2 1", "3 0 2 1", []int{3, 0, 2, 1}},
		{"11", "10 9 8 7 6 5 4 3 2 1 0", []int{10, 9, 8, 7, 6, 5, 4, 3, 2, 1, 0}},
	} {
		if order, ok := Parse(parseMap(t, c.text), c.order); !ok || !slices.Equal(order, c.want) {
			t.Errorf("Parse(%q, %q) = %v, %v, want %v", c.text, c.order, order, ok, c.want)
		}
	}
}

func TestParseOfTheEmptyTextGoesByRoads(t *testing.T) {
	for _, c := range []struct {
		text string
		want []int
	}{
		{"1", []int{0}}, {"3", []int{0, 1, 2}}, {"3\n1 2 9", []int{1, 2, 0}},
		{"4\n0 3 1\n1 3 2\n2 3 3", []int{3, 0, 1, 2}},
		// how many roads, not how long they are
		{"5\n0 1 1000\n2 3 1\n3 4 1", []int{3, 0, 1, 2, 4}},
		{"6\n4 5 1\n3 4 1\n3 5 1\n2 5 1\n1 2 1", []int{5, 2, 3, 4, 1, 0}},
	} {
		if order, ok := Parse(parseMap(t, c.text), ""); !ok || !slices.Equal(order, c.want) {
			t.Errorf("Parse(%q) = %v, %v, want %v", c.text, order, ok, c.want)
		}
	}
}

func TestParseRefuses(t *testing.T) {
	m := parseMap(t, "3\n0 1 5")
	for _, text := range []string{
		" ", "  ", "0", "0 1", "0 1 2 0", "0 1 1", "2 2 2", "0 1 3", "0 1 -1", "0 1 -2", "0 1 +2", "0 1 02", "00 1 2", "0 1 2 ", " 0 1 2", "0  1 2", "0 1  ", "0 1 2\n",
		"0\t1\t2", "0,1,2", "0 1 x", "0 1 2 3", "0 1 18446744073709551618", "\xff", strings.Repeat("0 ", 100000),
	} {
		if order, ok := Parse(m, text); ok || order != nil {
			t.Errorf("Parse(%.40q) = %v, %v", text, order, ok)
		}
	}
}
