package net_test

import (
	"fmt"

	"sacristy/api"
	"sacristy/net"
	"sacristy/object"
	"sacristy/pack"
	"sacristy/shelf"
)

// The one that the README shows.
func Example() {
	s := shelf.New(1 << 20)
	e := net.Init(s)
	n, e := net.Open(s)
	e = n.Create("a", "")
	one := api.Obj{Kind: api.Blob, Data: "one\n"}
	b, _ := pack.Put([]api.Entry{{Kind: one.Kind, Data: one.Data}})
	e, at := n.Push("a", []api.Update{{Name: "tags/one", New: object.Id(one)}}, b)
	fmt.Println(int(e), at)
	e = n.Create("b", "a")
	fmt.Println(int(e), len(n.Pool()), len(n.Root().Forks))
	e = n.Delete("a")
	l, e := n.Held("b")
	fmt.Println(len(l), l[0].Obj == one, int(e))
	b, e = n.Fetch("b", []string{object.Id(one)}, nil)
	fmt.Println(len(b), int(e))
	e, at = n.Push("b", []api.Update{{Name: "tags/one", New: object.Id(one)}}, nil)
	fmt.Println(int(e), at)
	e = n.Detach("b")
	e = n.Prune()
	fmt.Println(int(e), len(n.Pool()))
	s.Fuse(4)
	e = n.Delete("b")
	s.Crash(nil)
	n, _ = net.Open(s)
	l, _ = n.Held("b")
	fmt.Println(int(e), len(l))
	// Output:
	// 0 0
	// 0 1 2
	// 1 true 0
	// 43 0
	// 92 0
	// 0 0
	// 13 1
}
