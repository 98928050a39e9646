package island_test

import (
	"slices"

	"sacristy/api"
	"sacristy/delta"
	"sacristy/object"
)

// The words of the chapter, told once more, the plainest way.

// twinComes tells whether a row comes to an Id: what is named is put in, till nothing new comes.
func twinComes(l []api.Held, row []string, id string) bool {
	met := slices.Clone(row)
	for i := 0; i < len(met); i++ {
		at := slices.IndexFunc(l, func(h api.Held) bool { return h.Id == met[i] })
		if at < 0 {
			continue
		}
		for _, w := range object.Wants(l[at].Obj) {
			if !slices.Contains(met, w.Id) {
				met = append(met, w.Id)
			}
		}
	}
	return slices.Contains(met, id)
}

func twinMarks(l []api.Held, tips [][]string) []int {
	var marks []int
	for _, h := range l {
		mark, bit := 0, 1
		for n, row := range tips {
			if n <= 30 && twinComes(l, row, h.Id) {
				mark += bit
			}
			bit *= 2
		}
		marks = append(marks, mark)
	}
	return marks
}

// twinHolds asks for each bit.
func twinHolds(mark, other int) bool {
	for bit := range 64 {
		if other>>bit&1 == 1 && mark>>bit&1 == 0 {
			return false
		}
	}
	return true
}

func twinPlan(l []api.Held, marks []int, most int) []api.Entry {
	if len(l) != len(marks) || len(l) > 512 {
		return nil
	}
	var out []api.Entry
	var depths []int
	for at, h := range l {
		found, d := -1, ""
		for from := range at {
			if l[from].Obj.Kind != h.Obj.Kind || !twinHolds(marks[from], marks[at]) || depths[from] >= most || depths[from] >= 16 {
				continue
			}
			if s := delta.Make(l[from].Obj.Data, h.Obj.Data); found < 0 || len(s) <= len(d) {
				found, d = from, s
			}
		}
		e, depth := api.Entry{Kind: h.Obj.Kind, Data: h.Obj.Data}, 0
		if found >= 0 && len(d) < len(h.Obj.Data) {
			e, depth = api.Entry{Kind: 6, Back: at - found, Data: d}, depths[found]+1
		}
		out, depths = append(out, e), append(depths, depth)
	}
	return out
}
