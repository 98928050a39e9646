package island_test

import (
	"fmt"

	"sacristy/api"
	"sacristy/island"
	"sacristy/object"
)

// The one that the README shows.
func Example() {
	one := api.Obj{Kind: api.Blob, Data: "some text that is long"}
	two := api.Obj{Kind: api.Blob, Data: "some text that is long, too"}
	a, b := object.Id(one), object.Id(two)
	l := []api.Held{{Id: a, Obj: one}, {Id: b, Obj: two}}
	marks := island.Marks(l, [][]string{{a, b}, {b}})
	entries := island.Plan(l, marks, 4)
	fmt.Println(marks, entries[1].Kind == api.Blob)
	marks = island.Marks(l, [][]string{{a, b}, {a}})
	entries = island.Plan(l, marks, 4)
	fmt.Println(marks, entries[1].Kind == api.Back, entries[1].Back, len(entries[1].Data))
	entries = island.Plan(l, marks, 0)
	fmt.Println(entries[1].Kind == api.Blob)
	// Output:
	// [1 3] true
	// [3 1] true 1 11
	// true
}
