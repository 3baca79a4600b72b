package hubs

import (
	"slices"
	"testing"

	"byway/api"
	"byway/atlas"
)

// labelRows turns rows of a place, a hub and how far it is into labels.
func labelRows(rows [][3]int) []api.Label {
	var labels []api.Label
	for _, row := range rows {
		labels = append(labels, api.Label{Place: row[0], Hub: row[1], Far: row[2]})
	}
	return labels
}

func TestLabels(t *testing.T) {
	for _, c := range []struct {
		text  string
		order []int
		want  [][3]int
	}{
		{"1", []int{0}, [][3]int{{0, 0, 0}}},
		{"2", []int{1, 0}, [][3]int{{0, 0, 0}, {1, 1, 0}}},
		{"2\n0 1 9", []int{1, 0}, [][3]int{{0, 1, 9}, {0, 0, 0}, {1, 1, 0}}},
		{"3\n0 1 2\n1 2 3", []int{0, 1, 2}, [][3]int{{0, 0, 0}, {1, 0, 2}, {1, 1, 0}, {2, 0, 5}, {2, 1, 3}, {2, 2, 0}}},
		{"3\n0 1 2\n1 2 3", []int{1, 2, 0}, [][3]int{{0, 1, 2}, {0, 0, 0}, {1, 1, 0}, {2, 1, 3}, {2, 2, 0}}},
		// a road as long as the way by the highest place does not make a hub
		{"3\n0 1 2\n1 2 3\n0 2 5", []int{1, 2, 0}, [][3]int{{0, 1, 2}, {0, 0, 0}, {1, 1, 0}, {2, 1, 3}, {2, 2, 0}}},
		{"3\n0 1 2\n1 2 3\n0 2 4", []int{1, 2, 0}, [][3]int{{0, 1, 2}, {0, 2, 4}, {0, 0, 0}, {1, 1, 0}, {2, 1, 3}, {2, 2, 0}}},
	} {
		m, e, _ := atlas.Parse(c.text)
		if e != api.OK {
			t.Fatalf("Parse(%q): %d", c.text, e)
		}
		if labels := Labels(m, c.order); !slices.Equal(labels, labelRows(c.want)) {
			t.Errorf("Labels(%q, %v) = %v, want %v", c.text, c.order, labels, c.want)
		}
	}
}
