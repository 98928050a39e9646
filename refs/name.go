package refs

// Bounds of names.
const (
	maxName  = 80
	minParts = 2
	maxParts = 4
	maxPart  = 30
)

// isFirst tells whether a text may be a name's first part.
func isFirst(s string) bool { return s == "heads" || s == "tags" }

// isPart tells whether a text may be another part of a name.
func isPart(s string) bool {
	if len(s) < 1 || len(s) > maxPart || s[0] == '.' {
		return false
	}
	for i := range len(s) {
		if !isPartByte(s[i]) {
			return false
		}
	}
	return true
}

func isPartByte(c byte) bool {
	return 'a' <= c && c <= 'z' || '0' <= c && c <= '9' || c == '.' || c == '-' || c == '_'
}

// above tells whether one name is above another one.
func above(name, other string) bool {
	n := len(name)
	return len(other) > n && other[n] == '/' && other[:n] == name
}
