package delta_test

import (
	"encoding/binary"
	"slices"

	"sacristy/api"
)

// The words of the chapter, told once more, the plainest way.

func number(n int) string { return string(binary.AppendUvarint(nil, uint64(n))) }

// readNumber is the number that a text begins with, and what is left.
func readNumber(s string) (int, string, bool) {
	n, k := binary.Uvarint([]byte(s))
	if k <= 0 || n > 1<<40 || number(int(n)) != s[:k] {
		return 0, "", false
	}
	return int(n), s[k:], true
}

// twinSteps is what steps make, all that are of the right form.
func twinSteps(base, s string) (string, bool) {
	out := ""
	for len(s) > 0 {
		n := int(s[0])
		s = s[1:]
		switch {
		case n == 128:
			from, rest, is := readNumber(s)
			count, rest, has := readNumber(rest)
			if !is || !has || count < 1 || from > len(base) || count > len(base)-from {
				return "", false
			}
			for i := range count {
				out += base[from+i : from+i+1]
			}
			s = rest
		case n < 1 || n > 127 || n > len(s):
			return "", false
		default:
			out += s[:n]
			s = s[n:]
		}
	}
	return out, true
}

func twinApply(base, d string) (string, api.Errno) {
	of, d, is := readNumber(d)
	if !is || of != len(base) {
		return "", api.ErrCorrupt
	}
	length, d, is := readNumber(d)
	if !is {
		return "", api.ErrCorrupt
	}
	text, is := twinSteps(base, d)
	if !is || len(text) != length {
		return "", api.ErrCorrupt
	}
	return text, api.OK
}

// twinLongest is where the base has the longest beginning of a text, of several the first, and how long it is.
func twinLongest(base, text string) (int, int) {
	at, long := 0, 0
	for from := range len(base) {
		n := 0
		for n < len(text) && from+n < len(base) && base[from+n] == text[n] {
			n++
		}
		if n > long {
			at, long = from, n
		}
	}
	return at, long
}

func insert(s string) string {
	out := ""
	for part := range slices.Chunk([]byte(s), 127) {
		out += string([]byte{byte(len(part))}) + string(part)
	}
	return out
}

func copies(from, count int) string { return "\x80" + number(from) + number(count) }

func twinMake(base, text string) string {
	out, off := number(len(base))+number(len(text)), ""
	for len(text) > 0 {
		from, count := twinLongest(base, text)
		if count >= 5 {
			out += insert(off) + copies(from, count)
			off, text = "", text[count:]
		} else {
			off, text = off+text[:1], text[1:]
		}
	}
	return out + insert(off)
}
