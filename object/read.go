package object

import (
	"errors"
	"strings"
)

// step reads something off the front of a text, and answers what is left.
type step func(s string) (string, error)

// read takes steps, one behind the other, and answers what the last one left.
func read(s string, steps ...step) (string, error) {
	for _, next := range steps {
		rest, err := next(s)
		if err != nil {
			return "", err
		}
		s = rest
	}
	return s, nil
}

// past goes past a word.
func past(word string) step {
	return func(s string) (string, error) {
		rest, is := strings.CutPrefix(s, word)
		return rest, need(is, word, errOther)
	}
}

// until keeps what stands ahead of an end, and goes past that.
func until(end string, to *string) step {
	return func(s string) (string, error) {
		ahead, rest, is := strings.Cut(s, end)
		*to = ahead
		return rest, need(is, "end", errWrong)
	}
}

// some keeps so many bytes.
func some(n int, to *string) step {
	return func(s string) (string, error) {
		if len(s) < n {
			return "", &fault{"end", errWrong}
		}
		*to = s[:n]
		return s[n:], nil
	}
}

// line keeps what stands behind a word, up to the end of the line.
func line(word string, to *string) step {
	return func(s string) (string, error) {
		return read(s, past(word), until("\n", to))
	}
}

// lines keeps likewise what each line has that begins with the word, as long as they are not more than may be.
func lines(word string, most int, to *[]string) step {
	return func(s string) (string, error) {
		for len(*to) < most {
			var one string
			rest, err := read(s, line(word, &one))
			if errors.Is(err, errOther) {
				break
			}
			if err != nil {
				return "", err
			}
			*to = append(*to, one)
			s = rest
		}
		return s, nil
	}
}
