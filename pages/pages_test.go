package pages

import (
	"hash/crc32"
	"strings"
	"testing"
)

// sumByWords goes bit by bit, as the document tells it.
func sumByWords(page int, held string) uint32 {
	sum := uint32(4294967295)
	for _, b := range []byte(string([]byte{byte(page >> 8), byte(page)}) + held) {
		sum ^= uint32(b)
		for range 8 {
			if sum%2 == 1 {
				sum = sum/2 ^ 3988292384
			} else {
				sum /= 2
			}
		}
	}
	return 4294967295 - sum
}

// drawn gives bytes of all kinds.
func drawn(size int) string {
	text := make([]byte, size)
	for i := range text {
		text[i] = byte(i*i + i/7)
	}
	return string(text)
}

func TestSumOf(t *testing.T) {
	for _, page := range []int{0, 1, 2, 127, 128, 255, 256, 257, 1874, 65535} {
		for _, held := range []string{strings.Repeat("\x00", 28), strings.Repeat("\xff", 28), drawn(28), drawn(200)[172:]} {
			want := sumByWords(page, held)
			if sum, byTable := sumOf(page, held), SumByTable(page, held); sum != want || byTable != want {
				t.Errorf("sumOf(%d, %x) = %d, by the table %d, want %d", page, held, sum, byTable, want)
			}
		}
	}
	for b := range 256 {
		held := strings.Repeat("a", 27) + string([]byte{byte(b)})
		want := crc32.ChecksumIEEE([]byte("\x00\x05" + held))
		if sum, byTable := sumOf(5, held), SumByTable(5, held); sum != want || byTable != want {
			t.Errorf("sumOf(5, %x) = %d, by the table %d, want %d", held, sum, byTable, want)
		}
	}
}

func TestTheTableIsFilled(t *testing.T) {
	if table != [256]uint32(*crc32.IEEETable) {
		t.Errorf("the table is %v", table)
	}
}

// TestNoPageHangsOnTheTable spoils the table for a while: only the sum that goes by it is another.
func TestNoPageHangsOnTheTable(t *testing.T) {
	held := drawn(28 * 20)
	data, byTable := Write(held), SumByTable(3, held[:28])
	right := table
	defer func() { table = right }()
	for low := range table {
		table[low] = ^table[low]
	}
	if Write(held) != data || FirstWrong(data) != Right {
		t.Error("pages hang on the table")
	}
	changed := []byte(data)
	changed[7*32+5] ^= 1
	if page := FirstWrong(string(changed)); page != 7 {
		t.Errorf("FirstWrong = %d", page)
	}
	if SumByTable(3, held[:28]) == byTable {
		t.Error("SumByTable does not go by the table")
	}
}

func TestWriteAndHeld(t *testing.T) {
	for size := range 200 {
		held := drawn(size)
		data := Write(held)
		count := (size + 27) / 28
		filled := held + strings.Repeat("\x00", count*28-size)
		if len(data) != count*32 || Held(data) != filled || FirstWrong(data) != Right {
			t.Errorf("%d bytes: %x holds %x, wrong: %d", size, data, Held(data), FirstWrong(data))
		}
		for page := range count {
			sum := sumByWords(page, filled[page*28:page*28+28])
			if got := data[page*32+28 : page*32+32]; got != string([]byte{byte(sum >> 24), byte(sum >> 16), byte(sum >> 8), byte(sum)}) {
				t.Errorf("%d bytes: page %d has the sum %x, want %d", size, page, got, sum)
			}
		}
	}
}

func TestFirstWrong(t *testing.T) {
	data := Write(drawn(28 * 300))
	for _, at := range []int{0, 27, 28, 31, 32, 63, 64, 255*32 + 5, 256*32 + 5, 257 * 32, 299*32 + 31} {
		changed := []byte(data)
		changed[at] ^= 16
		if page := FirstWrong(string(changed)); page != at/32 {
			t.Errorf("byte %d changed: FirstWrong = %d", at, page)
		}
		changed[299*32] ^= 1
		if page := FirstWrong(string(changed)); page != at/32 {
			t.Errorf("byte %d and the last page changed: FirstWrong = %d", at, page)
		}
	}
	// the number of a page is in its sum, both bytes of it
	for _, moved := range []string{data[32:], data[32:64] + data[:32], data[256*32:], data[257*32:]} {
		if page := FirstWrong(moved); page != 0 {
			t.Errorf("FirstWrong = %d", page)
		}
	}
}
