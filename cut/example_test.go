package cut_test

import (
	"fmt"

	"sacristy/api"
	"sacristy/cut"
	"sacristy/object"
	"sacristy/walk"
)

// commit is one of a file, with what it stands on.
func commit(text string, parents ...string) ([]api.Obj, string) {
	blob := api.Obj{Kind: api.Blob, Data: text}
	tree, _ := object.PutTree([]api.Item{{Mode: api.Plain, Name: "a", Id: object.Id(blob)}})
	t := api.Obj{Kind: api.Tree, Data: tree}
	change, _ := object.PutChange(api.Change{Tree: object.Id(t), Parents: parents})
	c := api.Obj{Kind: api.Commit, Data: change}
	return []api.Obj{blob, t, c}, object.Id(c)
}

// The one that the README shows.
func Example() {
	old, first := commit("one")
	more, second := commit("two", first)
	l := walk.Set(append(old, more...))
	tips := []string{second}
	sent, e := cut.Send(l, tips, tips, nil)
	fmt.Println(len(sent), e == api.OK)
	sent, e = cut.Send(l, tips, tips, []string{first})
	fmt.Println(len(sent), e == api.OK)
	sent, e = cut.Send(l, tips, []string{first}, nil)
	fmt.Println(len(sent), e == api.ErrArg)
	all, e := cut.Union(l, [][]string{{first}, {second}})
	fmt.Println(len(all), e == api.OK)
	_, e = cut.Union(l[:1], [][]string{tips})
	fmt.Println(e == api.ErrLack)
	// Output:
	// 6 true
	// 3 true
	// 0 true
	// 6 true
	// true
}
