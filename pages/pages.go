// Package pages lays bytes into pages with sums, and takes them out again.
package pages

import (
	"strings"

	"byway/api"
)

// Right is told instead of a page's number where all sums are right.
const Right = -1

// Write lays what is to be held into pages; bytes 0 fill the last one.
func Write(held string) string {
	var data strings.Builder
	for page := 0; len(held) > 0; page++ {
		part := held[:min(api.Held, len(held))]
		held = held[len(part):]
		part += strings.Repeat("\x00", api.Held-len(part))
		data.WriteString(part)
		data.WriteString(sumText(sumOf(page, part)))
	}
	return data.String()
}

// FirstWrong tells the number of the first page whose sum is wrong. The data must be whole pages.
func FirstWrong(data string) int {
	for page := range len(data) / api.Page {
		start := page * api.Page
		part, sum := data[start:start+api.Held], data[start+api.Held:start+api.Page]
		if sum != sumText(sumOf(page, part)) {
			return page
		}
	}
	return Right
}

// Held gives what all pages hold, one behind the other. The data must be whole pages.
func Held(data string) string {
	var held strings.Builder
	for start := 0; start < len(data); start += api.Page {
		held.WriteString(data[start : start+api.Held])
	}
	return held.String()
}

func sumText(sum uint32) string {
	return string([]byte{byte(sum >> 24), byte(sum >> 16), byte(sum >> 8), byte(sum)})
}
