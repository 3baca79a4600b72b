package counts

import (
	"slices"
	"testing"
)

func TestAppendAndRead(t *testing.T) {
	for _, c := range []struct {
		n    int
		text string
	}{
		{0, "\x00"}, {1, "\x01"}, {40, "\x28"}, {127, "\x7f"},
		{128, "\x80\x01"}, {129, "\x81\x01"}, {255, "\xff\x01"}, {256, "\x80\x02"}, {1000, "\xe8\x07"}, {16383, "\xff\x7f"},
		{16384, "\x80\x80\x01"}, {16385, "\x81\x80\x01"}, {39000, "\xd8\xb0\x02"}, {2097151, "\xff\xff\x7f"},
	} {
		if text := string(Append([]byte("ab"), c.n)); text != "ab"+c.text {
			t.Errorf("Append(ab, %d) = %x, want ab and %x", c.n, text, c.text)
		}
		for _, behind := range []string{"", "\x00", "\x01", "\x80", "\xff\xff"} {
			if n, size, ok := Read(c.text + behind); n != c.n || size != len(c.text) || !ok {
				t.Errorf("Read(%x) = %d, %d, %v, want %d", c.text+behind, n, size, ok, c.n)
			}
		}
	}
}

func TestReadTakesBackWhatAppendGave(t *testing.T) {
	for n := range 1 << 21 {
		text := string(Append(nil, n))
		if got, size, ok := Read(text); got != n || size != len(text) || !ok {
			t.Fatalf("Read(%x) = %d, %d, %v, want %d", text, got, size, ok, n)
		}
	}
}

// noCounts end too early, or have more bytes than they need, or than a count may have.
func noCounts() []string {
	return []string{
		"", "\x80", "\xff", "\x80\x80", "\xff\xff", "\x80\x00", "\x81\x00", "\xff\x00", "\x80\x80\x00", "\xff\xff\x00", "\x81\x80\x00",
		"\x80\x80\x80", "\xff\xff\xff", "\x80\x80\x80\x01", "\x80\x80\x80\x00", "\xff\xff\xff\x7f", "\x81\x80\x80\x00", "\xff\xff\xff\xff\x01",
	}
}

func TestReadRefuses(t *testing.T) {
	for _, text := range noCounts() {
		if n, size, ok := Read(text); n != 0 || size != 0 || ok {
			t.Errorf("Read(%x) = %d, %d, %v", text, n, size, ok)
		}
	}
}

func TestReadAll(t *testing.T) {
	for _, c := range []struct {
		text string
		all  []int
	}{
		{"", nil}, {"\x00", []int{0}}, {"\x00\x00", []int{0, 0}}, {"\x05\x80\x01\x07", []int{5, 128, 7}}, {"\xd8\xb0\x02\x7f", []int{39000, 127}},
	} {
		if all, ok := ReadAll(c.text); !slices.Equal(all, c.all) || !ok {
			t.Errorf("ReadAll(%x) = %v, %v, want %v", c.text, all, ok, c.all)
		}
	}
	for _, text := range noCounts()[1:] {
		if all, ok := ReadAll("\x05" + text); all != nil || ok {
			t.Errorf("ReadAll(05 %x) = %v, %v", text, all, ok)
		}
	}
}
