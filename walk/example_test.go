package walk_test

import (
	"fmt"

	"sacristy/api"
	"sacristy/object"
	"sacristy/walk"
)

// The one that the README shows.
func Example() {
	blob := api.Obj{Kind: api.Blob, Data: "one\n"}
	tree, _ := object.PutTree([]api.Item{{Mode: api.Plain, Name: "a", Id: object.Id(blob)}})
	t := api.Obj{Kind: api.Tree, Data: tree}
	l := walk.Set([]api.Obj{t, blob, t})
	tips := []string{object.Id(t)}
	have, lacking := walk.Closure(l, tips)
	fmt.Println(len(l), len(have), len(lacking), walk.Sound(l, tips) == api.OK)
	o, is := walk.Find(l, object.Id(t))
	fmt.Println(o == t, is)
	part := walk.Pick(l, tips)
	_, lacking = walk.Closure(part, tips)
	fmt.Println(lacking[0] == object.Id(blob), walk.Sound(part, tips) == api.ErrLack)
	l = walk.Join(part, walk.Set([]api.Obj{blob}))
	fmt.Println(walk.Sound(l, tips) == api.OK)
	// Output:
	// 2 2 0 true
	// true true
	// true true
	// true
}
