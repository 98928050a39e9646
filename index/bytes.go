package index

import (
	"bytes"

	"sacristy/api"
	"sacristy/digest"
)

const (
	numberSize = 2
	headSize   = firsts * numberSize
	rowSize    = sumSize + numberSize
)

// written is a table's bytes.
func (t table) written() []byte {
	b := make([]byte, 0, headSize+len(t.rows)*rowSize+sumSize)
	for _, n := range t.upTo {
		b = putNumber(b, n)
	}
	for _, r := range t.rows {
		b = append(b, r.sum[:]...)
		b = putNumber(b, r.place)
	}
	s := digest.Sum(b)
	return append(b, s[:]...)
}

// read is the table of bytes, and whether they are an index.
func read(b []byte) (table, bool) {
	rows, is := readRows(b)
	if !is || !placed(rows) {
		return table{}, false
	}
	t, is := tableOf(rows)
	// What is told of first bytes, and the sum at the end, hang on the rows alone.
	if !is || !bytes.Equal(t.written(), b) {
		return table{}, false
	}
	return t, true
}

// readRows is the rows of bytes, and whether those are as long as an index may be.
func readRows(b []byte) ([]row, bool) {
	size := len(b) - headSize - sumSize
	count := size / rowSize
	if size < 0 || size%rowSize != 0 || count > api.MaxObjects {
		return nil, false
	}
	rows := make([]row, 0, count)
	for at := range count {
		from := headSize + at*rowSize
		to := from + sumSize
		rows = append(rows, row{sum(b[from:to]), number(b[to:])})
	}
	return rows, true
}

func putNumber(b []byte, n int) []byte { return append(b, byte(n>>8), byte(n)) }

func number(b []byte) int { return int(b[0])<<8 | int(b[1]) }
