package walk

import (
	"iter"

	"sacristy/api"
	"sacristy/object"
)

// met is a name on the way: whether it has an object, and what that wants.
type met struct {
	id    string
	there bool
	wants []api.Want
}

// after goes after names, and tells all that they come to, each once. What is met is put in a row, as objects may stand on one another deeper than calls should.
func after(of map[string]api.Obj, tips []string) iter.Seq[met] {
	return func(yield func(met) bool) {
		var row []string
		times := map[string]int{}
		meet := func(id string) {
			times[id]++
			if times[id] == 1 {
				row = append(row, id)
			}
		}
		for _, id := range tips {
			meet(id)
		}
		for i := 0; i < len(row); i++ {
			o, there := of[row[i]]
			m := met{row[i], there, object.Wants(o)}
			if !yield(m) {
				return
			}
			for _, w := range m.wants {
				meet(w.Id)
			}
		}
	}
}
