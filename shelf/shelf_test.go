package shelf

import (
	"math/rand"
	"slices"
	"testing"
)

// drawn gives so many whole pages with bytes of all kinds.
func drawn(pages int) string {
	text := make([]byte, 28*pages)
	for i := range text {
		text[i] = byte(i*i + i/7)
	}
	return string(text)
}

func TestTake(t *testing.T) {
	held := drawn(5)
	for room := 1; room <= 8; room++ {
		for start := range len(held) {
			for end := start; end <= len(held); end++ {
				s := New(held, room)
				reads := 0
				if end > start {
					reads = (end-1)/28 - start/28 + 1
				}
				if taken := s.Take(start, end); taken != held[start:end] || s.Reads() != reads {
					t.Fatalf("Take(%d, %d) = %x, %d read, want %x, %d", start, end, taken, s.Reads(), held[start:end], reads)
				}
			}
		}
	}
}

func TestThePageLookedAtLongestAgoIsDropped(t *testing.T) {
	s := New(drawn(9), 3)
	for _, c := range []struct{ page, reads int }{
		{0, 1}, {1, 2}, {2, 3}, {0, 3}, {2, 3},
		{3, 4},                 // drops 1
		{0, 4}, {2, 4}, {3, 4}, // still kept
		{1, 5}, // drops 0
		{2, 5}, {3, 5}, {1, 5},
		{0, 6}, // drops 2
		{3, 6}, {1, 6}, {2, 7},
	} {
		if s.Take(c.page*28, c.page*28+1); s.Reads() != c.reads {
			t.Fatalf("behind page %d: %d read, want %d", c.page, s.Reads(), c.reads)
		}
	}
}

func TestTakeKeepsNoMoreThanItHasRoomFor(t *testing.T) {
	held := drawn(12)
	for room := 1; room <= 8; room++ {
		r := rand.New(rand.NewSource(int64(room)))
		s := New(held, room)
		var looked []int
		reads := 0
		for range 2000 {
			start := r.Intn(len(held))
			end := min(len(held), start+1+r.Intn(100))
			for page := start / 28; page <= (end-1)/28; page++ {
				if !slices.Contains(looked, page) {
					reads++
				}
				// kept are the last ones of all different pages that were looked at
				looked = slices.DeleteFunc(looked, func(other int) bool { return other == page })
				looked = append(looked, page)
				looked = looked[max(0, len(looked)-room):]
			}
			if taken := s.Take(start, end); taken != held[start:end] || s.Reads() != reads || len(s.kept) != len(looked) {
				t.Fatalf("room %d: Take(%d, %d) = %x, %d read, %d kept, want %x, %d, %d", room, start, end, taken, s.Reads(), len(s.kept), held[start:end], reads, len(looked))
			}
		}
	}
}
