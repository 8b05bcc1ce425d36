package paint

import (
	"strconv"
	"strings"
)

// MarkDigits is how many digits a mark has: as many as a sum of 32 bits can have to the base 16.
const MarkDigits = 8

// Mark is the mark of a tile with this body.
func Mark(body string) string {
	digits := strconv.FormatUint(uint64(sum(body)), 16)
	return strings.Repeat("0", MarkDigits-len(digits)) + digits
}

func sum(text string) uint32 {
	s := ^uint32(0)
	for i := range len(text) {
		s ^= uint32(text[i])
		for range 8 {
			low := s & 1
			s >>= 1
			if low == 1 {
				s ^= 3988292384
			}
		}
	}
	return ^s
}
