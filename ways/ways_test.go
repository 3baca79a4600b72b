package ways

import (
	"slices"
	"testing"

	"byway/api"
	"byway/atlas"
)

func parse(t *testing.T, text string) *atlas.Map {
	t.Helper()
	m, e, _ := atlas.Parse(text)
	if e != api.OK {
		t.Fatalf("Parse(%q): %d", text, e)
	}
	return m
}

func TestFarFrom(t *testing.T) {
	m := parse(t, "4\n0 1 5\n1 2 1\n0 2 7")
	for start, want := range [][]int{{0, 5, 6, Apart}, {5, 0, 1, Apart}, {6, 1, 0, Apart}, {Apart, Apart, Apart, 0}} {
		if far := FarFrom(m, start); !slices.Equal(far, want) {
			t.Errorf("FarFrom %d = %v, want %v", start, far, want)
		}
	}
}

func TestFirst(t *testing.T) {
	m := parse(t, "6\n0 1 1\n1 3 2\n0 2 2\n2 3 1\n0 3 3")
	for _, c := range []struct {
		from, to int
		far      int
		way      []int
	}{
		{0, 3, 3, []int{0, 1, 3}}, {3, 0, 3, []int{3, 0}}, {1, 2, 3, []int{1, 0, 2}},
		{4, 4, 0, []int{4}}, {4, 5, Apart, nil}, {0, 5, Apart, nil},
	} {
		if way, far := First(m, c.from, c.to); far != c.far || !slices.Equal(way, c.way) {
			t.Errorf("First from %d to %d = %v, %d, want %v, %d", c.from, c.to, way, far, c.way, c.far)
		}
	}
}
