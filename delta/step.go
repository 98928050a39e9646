package delta

import (
	"iter"
	"strings"

	"sacristy/num"
)

// A step's first byte: a copy's, or how many bytes an insert has.
const (
	copied = 128
	most   = 127
)

// putCopy puts a copy behind a delta.
func putCopy(d []byte, from int, count int) []byte {
	d = append(append(d, copied), num.Put(from)...)
	return append(d, num.Put(count)...)
}

// putInserts puts inserts of a text behind a delta.
func putInserts(d []byte, text string) []byte {
	for len(text) > 0 {
		n := min(len(text), most)
		d = append(append(d, byte(n)), text[:n]...)
		text = text[n:]
	}
	return d
}

// made is what a delta makes of its base.
func made(base string, delta string) (string, error) {
	length, steps, err := head(base, []byte(delta))
	if err != nil {
		return "", err
	}
	if err := long(base, steps, length); err != nil {
		return "", err
	}
	var text strings.Builder
	text.Grow(length)
	for part := range parts(base, steps) {
		text.WriteString(part)
	}
	return text.String(), nil
}

// head reads off a delta's two numbers: it answers the second one, and the bytes of the steps.
func head(base string, b []byte) (int, []byte, error) {
	of, b, err := number(b)
	if err != nil {
		return 0, nil, err
	}
	if of != len(base) {
		return 0, nil, wrong("base")
	}
	return number(b)
}

// long is an error, if steps are wrong, or do not make so many bytes. It is asked ahead of making, as few steps may make more than there is room for.
func long(base string, steps []byte, length int) error {
	sum := 0
	for part, err := range parts(base, steps) {
		if err != nil {
			return err
		}
		sum += len(part)
	}
	if sum != length {
		return wrong("text")
	}
	return nil
}

// parts tells what each step makes, up to the first that is wrong.
func parts(base string, steps []byte) iter.Seq2[string, error] {
	return func(yield func(string, error) bool) {
		for b := steps; len(b) > 0; {
			part, rest, err := next(base, b)
			if !yield(part, err) {
				return
			}
			b = rest // nothing, if it is wrong
		}
	}
}

// next reads off the first step: it answers what that makes, and the bytes that are left.
func next(base string, b []byte) (string, []byte, error) {
	if b[0] == copied {
		return nextCopy(base, b[1:])
	}
	end := 1 + int(b[0])
	if b[0] == 0 || b[0] > most || end > len(b) {
		return "", nil, wrong("insert")
	}
	return string(b[1:end]), b[end:], nil
}

// nextCopy reads off a copy's numbers.
func nextCopy(base string, b []byte) (string, []byte, error) {
	from, b, err := number(b)
	if err != nil {
		return "", nil, err
	}
	count, b, err := number(b)
	if err != nil {
		return "", nil, err
	}
	if count == 0 || from+count > len(base) {
		return "", nil, wrong("copy")
	}
	return base[from : from+count], b, nil
}

// number reads off a number.
func number(b []byte) (int, []byte, error) {
	n, k, is := num.Get(b)
	if !is {
		return 0, nil, wrong("number")
	}
	return n, b[k:], nil
}
