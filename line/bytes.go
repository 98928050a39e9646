package line

import (
	"iter"

	"sacristy/api"
)

// isNone tells whether a line is none, so that it has no bytes.
func isNone(one api.Line) bool {
	return one.Flush != (one.Data == "") || len(one.Data) > api.MaxLine
}

// putLine puts a line behind bytes.
func putLine(b []byte, one api.Line) []byte {
	if one.Flush {
		return putLength(b, 0)
	}
	return append(putLength(b, digits+len(one.Data)), one.Data...)
}

// lines tells each line that bytes begin with, up to the first that is not whole, and what is behind it.
func lines(b []byte) iter.Seq2[api.Line, []byte] {
	return func(yield func(api.Line, []byte) bool) {
		for {
			one, behind, is := next(b)
			if !is || !yield(one, behind) {
				return
			}
			b = behind
		}
	}
}

// next reads off the first line, and answers what is behind it, if all of that line is there.
func next(b []byte) (api.Line, []byte, bool) {
	n, is := length(b)
	if !is || !mayBe(n) || n > len(b) {
		return api.Line{}, nil, false
	}
	if n == 0 {
		return api.Line{Flush: true}, b[digits:], true
	}
	return api.Line{Data: string(b[digits:n])}, b[n:], true
}

// mayBe tells whether a line may have such a length: as it counts its digits, one with a byte has more than these.
func mayBe(n int) bool {
	return n == 0 || digits < n && n <= digits+api.MaxLine
}

// mayBecome tells whether bytes that no whole line begins may begin one, when more come. Of too few for a length nobody can know.
func mayBecome(b []byte) bool {
	n, is := length(b)
	return len(b) < digits || is && mayBe(n)
}
