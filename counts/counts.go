// Package counts writes and reads the counts of a store: numbers of one to three bytes.
package counts

// most is how many bytes a count has at most.
const most = 3

// Append puts a count behind the bytes. It must be one that three bytes have room for.
func Append(to []byte, n int) []byte {
	for n >= 128 {
		to = append(to, byte(128+n%128))
		n /= 128
	}
	return append(to, byte(n))
}

// Read reads the count at the front of the bytes, and tells how many bytes it has.
func Read(from string) (int, int, bool) {
	n, size := 0, 0
next:
	if size == len(from) || size == most {
		return 0, 0, false
	}
	b := from[size]
	n += int(b%128) << (7 * size)
	size++
	if b >= 128 {
		goto next
	}
	// A last byte that adds nothing is one too many: a count has as few as it has room in.
	if b == 0 && size > 1 {
		return 0, 0, false
	}
	return n, size, true
}

// ReadAll reads counts to the last byte.
func ReadAll(from string) ([]int, bool) {
	var all []int
	for len(from) > 0 {
		n, size, ok := Read(from)
		if !ok {
			return nil, false
		}
		all = append(all, n)
		from = from[size:]
	}
	return all, true
}
