package index

const (
	sumSize = 32
	digits  = "0123456789abcdef"
)

// sum is what a name's digits say. Sums rise as their names do.
type sum [sumSize]byte

// sumOf is that of what digest.Named has let by.
func sumOf(id string) (s sum) {
	for i := range sumSize {
		s[i] = value(id[2*i])<<4 | value(id[2*i+1])
	}
	return s
}

func value(digit byte) byte {
	if digit <= '9' {
		return digit - '0'
	}
	return digit - 'a' + 10
}

func nameOf(s sum) string {
	var id [2 * sumSize]byte
	for i, c := range s {
		id[2*i], id[2*i+1] = digits[c>>4], digits[c&15]
	}
	return string(id[:])
}
