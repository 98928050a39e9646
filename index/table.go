package index

import (
	"bytes"
	"slices"

	"sacristy/api"
)

// firsts is how many bytes there are that a sum may begin with.
const firsts = 256

type row struct {
	sum   sum
	place int
}

// table is what an index tells: of each byte how many sums begin with it, or with a lesser one; and the rows, by rising sums.
type table struct {
	upTo [firsts]int
	rows []row
}

func sortRows(rows []row) {
	slices.SortFunc(rows, func(a, b row) int { return compare(a.sum, b.sum) })
}

func compare(a, b sum) int { return bytes.Compare(a[:], b[:]) }

// tableOf is that of rows as they stand, and whether they rise; so no two sums are one.
func tableOf(rows []row) (table, bool) {
	t := table{rows: rows}
	for at, r := range rows {
		if at > 0 && compare(rows[at-1].sum, r.sum) >= 0 {
			return table{}, false
		}
		t.upTo[r.sum[0]]++
	}
	for c := range firsts - 1 {
		t.upTo[c+1] += t.upTo[c]
	}
	return t, true
}

// placed tells whether each place, from 0 on, is that of one row.
func placed(rows []row) bool {
	var taken [api.MaxObjects]int
	for _, r := range rows {
		if r.place >= len(rows) || taken[r.place] > 0 {
			return false
		}
		taken[r.place]++
	}
	return true
}

// place is that of a sum, and whether it has one. It is sought by halves among those that begin as it does.
func (t table) place(s sum) (int, bool) {
	from, to := 0, t.upTo[s[0]]
	if s[0] > 0 {
		from = t.upTo[s[0]-1]
	}
	for from < to {
		mid := (from + to) / 2
		r := t.rows[mid]
		if r.sum == s {
			return r.place, true
		}
		if compare(r.sum, s) < 0 {
			from = mid + 1
		} else {
			to = mid
		}
	}
	return 0, false
}
