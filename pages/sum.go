package pages

const (
	firstSum = 4294967295
	turned   = 3988292384 // the bits that are turned when a 1 falls out
)

// table tells what the lowest 8 bits of a sum make of the others when they have all fallen out.
var table [256]uint32

func init() {
	for low := range table {
		table[low] = dropEight(uint32(low))
	}
}

// sumOf works out the sum of a page: of its number, and of what it holds. It goes bit by bit, not by
// the table: so what Write and FirstWrong answer hangs on their arguments alone.
func sumOf(page int, held string) uint32 {
	sum := uint32(firstSum)
	for _, b := range summed(page, held) {
		sum = dropEight(sum ^ uint32(b))
	}
	return ^sum
}

// SumByTable works out the same sum by the table, a byte at a step.
func SumByTable(page int, held string) uint32 {
	sum := uint32(firstSum)
	for _, b := range summed(page, held) {
		sum = sum>>8 ^ table[byte(sum)^b]
	}
	return ^sum
}

// summed gives the bytes of which the sum of a page is worked out.
func summed(page int, held string) []byte {
	return append([]byte{byte(page >> 8), byte(page)}, held...)
}

// dropEight lets the lowest 8 bits of a sum fall out.
func dropEight(sum uint32) uint32 {
	for range 8 {
		fallen := sum & 1
		sum >>= 1
		if fallen == 1 {
			sum ^= turned
		}
	}
	return sum
}
