package object_test

import (
	"fmt"

	"sacristy/api"
	"sacristy/object"
)

// The one that the README shows.
func Example() {
	blob := api.Obj{Kind: api.Blob, Data: "one\n"}
	tree, is := object.PutTree([]api.Item{{Mode: api.Plain, Name: "a", Id: object.Id(blob)}})
	t := api.Obj{Kind: api.Tree, Data: tree}
	fmt.Println(is, object.Right(t), object.Wants(t)[0] == api.Want{Id: object.Id(blob), Kind: api.Blob})
	commit, is := object.PutChange(api.Change{Tree: object.Id(t), Who: "me", Text: "first"})
	c, was := object.GetChange(commit)
	fmt.Println(is, was, c.Who, c.Text)
	_, is = object.GetChange(tree)
	fmt.Println(is)
	// Output:
	// true true true
	// true true me first
	// false
}
