package number

import "testing"

func TestParse(t *testing.T) {
	for _, c := range []struct {
		text string
		n    int64
		ok   bool
	}{
		{"0", 0, true}, {"1", 1, true}, {"9", 9, true}, {"10", 10, true}, {"1000", 1000, true},
		{"9223372036854775799", 9223372036854775799, true},
		{"9223372036854775807", 9223372036854775807, true},
		{"9223372036854775808", 0, false}, {"9223372036854775809", 0, false}, {"9223372036854775810", 0, false},
		{"18446744073709551616", 0, false}, {"18446744073709551617", 0, false}, {"99999999999999999999", 0, false},
		{"", 0, false}, {"00", 0, false}, {"01", 0, false}, {"-0", 0, false}, {"-1", 0, false}, {"+1", 0, false},
		{" 1", 0, false}, {"1 ", 0, false}, {"1\r", 0, false}, {"1_0", 0, false}, {"0x1", 0, false}, {"1e2", 0, false}, {"1.", 0, false},
		{"/", 0, false}, {":", 0, false}, {"1/", 0, false}, {"1:", 0, false}, {"\x00", 0, false}, {"\xff", 0, false}, {"\u0661", 0, false},
	} {
		if n, ok := Parse(c.text); n != c.n || ok != c.ok {
			t.Errorf("Parse(%q) = %d, %v, want %d, %v", c.text, n, ok, c.n, c.ok)
		}
	}
}

func TestWithin(t *testing.T) {
	for _, c := range []struct {
		text      string
		low, high int
		n         int
		ok        bool
	}{
		{"0", 0, 0, 0, true}, {"1", 1, 40, 1, true}, {"40", 1, 40, 40, true},
		{"0", 1, 40, 0, false}, {"41", 1, 40, 0, false}, {"0", 0, -1, 0, false},
		{"x", 0, 40, 0, false}, {"", 0, 40, 0, false}, {"18446744073709551617", 0, 40, 0, false},
	} {
		if n, ok := Within(c.text, c.low, c.high); n != c.n || ok != c.ok {
			t.Errorf("Within(%q, %d, %d) = %d, %v, want %d, %v", c.text, c.low, c.high, n, ok, c.n, c.ok)
		}
	}
}
