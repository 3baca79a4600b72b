package pages

const (
	firstSum = 4294967295
	turned   = 3988292384 // the bits that are turned when a 1 falls out
)

// table tells what the lowest 8 bits of a sum make of the others when they have all fallen out.
var table [256]uint32

func init() {
	for low := range table {
		sum := uint32(low)
		for range 8 {
			fallen := sum & 1
			sum >>= 1
			if fallen == 1 {
				sum ^= turned
			}
		}
		table[low] = sum
	}
}

// sumOf works out the sum of a page: of its number, and of what it holds.
func sumOf(page int, held string) uint32 {
	sum := uint32(firstSum)
	sum = addByte(sum, byte(page>>8))
	sum = addByte(sum, byte(page))
	for i := range len(held) {
		sum = addByte(sum, held[i])
	}
	return ^sum
}

func addByte(sum uint32, b byte) uint32 {
	return sum>>8 ^ table[byte(sum)^b]
}
