package line_test

import (
	"fmt"
	"math/rand"
	"regexp"
	"slices"
	"strconv"
	"strings"

	"sacristy/api"
)

// flush is the end of a part.
var flush = api.Line{Flush: true}

func data(s string) api.Line { return api.Line{Data: s} }

// twinPut is Put by the library's digits, line by line.
func twinPut(l []api.Line) (string, api.Errno) {
	var s strings.Builder
	for _, one := range l {
		switch {
		case one == flush:
			s.WriteString("0000")
		case one.Flush, one.Data == "", len(one.Data) > 4000:
			return "", api.ErrArg
		default:
			fmt.Fprintf(&s, "%04x%s", len(one.Data)+4, one.Data)
		}
	}
	return s.String(), api.OK
}

// lengths are the digits that a line may begin with.
var lengths = regexp.MustCompile(`\A(0000|000[5-9a-f]|00[1-9a-f][0-9a-f]|0[1-9a-e][0-9a-f][0-9a-f]|0f[0-9][0-9a-f]|0fa[0-4])`)

// twinCut is Cut by a pattern of all lengths, and the library's numbers.
func twinCut(s string) ([]api.Line, string, api.Errno) {
	var l []api.Line
	for {
		if len(s) < 4 {
			return l, s, api.OK
		}
		if !lengths.MatchString(s) {
			return nil, "", api.ErrCorrupt
		}
		n, _ := strconv.ParseInt(s[:4], 16, 64)
		switch {
		case n == 0:
			l, s = append(l, flush), s[4:]
		case int(n) <= len(s):
			l, s = append(l, data(s[4:n])), s[n:]
		default:
			return l, s, api.OK
		}
	}
}

// some are lines by chance, most of them short; of texts that look like lines, too.
func some(r *rand.Rand) []api.Line {
	var l []api.Line
	for range r.Intn(6) {
		l = append(l, one(r))
	}
	return l
}

func one(r *rand.Rand) api.Line {
	switch r.Intn(8) {
	case 0, 1:
		return flush
	case 2:
		return data(strings.Repeat("0005x", 1+r.Intn(8)))
	case 3:
		return data(strings.Repeat("0000", 1+r.Intn(8)))
	case 4:
		return data(text(r, 3990+r.Intn(11)))
	}
	return data(text(r, 1+r.Intn(40)))
}

// text is bytes by chance.
func text(r *rand.Rand, n int) string {
	b := make([]byte, n)
	r.Read(b)
	return string(b)
}

// nearly is bytes with one changed, left out or put in, or cut.
func nearly(r *rand.Rand, s string) string {
	const edges = "0123456789abcdefABCDFgG/:`@ +-x\x00\n\xff"
	b := []byte(s)
	at := r.Intn(len(b) + 1)
	c := edges[r.Intn(len(edges))]
	switch r.Intn(4) {
	case 0:
		return string(slices.Insert(b, at, c))
	case 1:
		return s[:at]
	}
	if at == len(b) {
		return s + s
	}
	if r.Intn(2) == 0 {
		return string(slices.Delete(b, at, at+1))
	}
	b[at] = c
	return string(b)
}
