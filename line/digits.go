package line

import "strings"

// A length's digits, the highest first, of four bits each.
const (
	digits    = 4
	digitBits = 4
	allDigits = "0123456789abcdef"
)

// putLength puts a length's digits behind bytes.
func putLength(b []byte, n int) []byte {
	for at := range digits {
		digit := n >> (digitBits * (digits - 1 - at)) % len(allDigits)
		b = append(b, allDigits[digit])
	}
	return b
}

// length is the number whose digits bytes begin with, and whether there are so many digits.
func length(b []byte) (int, bool) {
	if len(b) < digits {
		return 0, false
	}
	n := 0
	for at := range digits {
		digit := strings.IndexByte(allDigits, b[at])
		if digit < 0 {
			return 0, false
		}
		n = n<<digitBits | digit
	}
	return n, true
}
