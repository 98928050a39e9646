package shelf

import (
	"strings"

	"sacristy/api"
)

// directory is that of a path.
func directory(path string) (string, error) {
	dir, name, cut := strings.Cut(path, "/")
	if !cut || !isPart(dir) || !isPart(name) {
		return "", &fault{path, api.ErrArg}
	}
	return dir, nil
}

// isPart tells whether a text may be a directory, or a name in one.
func isPart(s string) bool {
	if len(s) < 1 || len(s) > api.MaxName {
		return false
	}
	for i := range len(s) {
		if !isPartByte(s[i]) {
			return false
		}
	}
	return true
}

func isPartByte(c byte) bool {
	return 'a' <= c && c <= 'z' || '0' <= c && c <= '9' || c == '.' || c == '-'
}
