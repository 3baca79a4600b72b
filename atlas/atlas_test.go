package atlas

import (
	"testing"

	"byway/api"
)

func TestParse(t *testing.T) {
	m, e, at := Parse("4\n0 1 5\n1 2 1\n0 2 7")
	if m == nil || e != api.OK || at != 0 {
		t.Fatalf("Parse = %v, %d, %d", m, e, at)
	}
	var want Map
	want.Places, want.Roads = 4, 3
	want.Length[0][1], want.Length[1][0] = 5, 5
	want.Length[1][2], want.Length[2][1] = 1, 1
	want.Length[0][2], want.Length[2][0] = 7, 7
	if *m != want {
		t.Errorf("Parse = %v", *m)
	}
	for place, has := range map[int]bool{-1 << 63: false, -1: false, 0: true, 3: true, 4: false, 1<<63 - 1: false} {
		if m.Has(place) != has {
			t.Errorf("Has(%d) = %v", place, !has)
		}
	}
}

func TestParseGivesNoMapWithAnError(t *testing.T) {
	for text, want := range map[string]api.Errno{
		"2\n0 1 5\n0 1 6": api.ErrTwice,
		"2\n0 1 5\n":      api.ErrForm,
		"":                api.ErrForm,
	} {
		if m, e, _ := Parse(text); m != nil || e != want {
			t.Errorf("Parse(%q) = %v, %d, want %d", text, m, e, want)
		}
	}
}
