package root_test

import (
	"fmt"

	"sacristy/api"
	"sacristy/digest"
	"sacristy/root"
)

// The one that the README shows.
func Example() {
	one := digest.Name([]byte("one"))
	a := api.Fork{Name: "a", Linked: true, Head: "heads/main", Refs: []api.Ref{{Name: "heads/main", Id: one}}}
	r := api.Root{Count: 3, Pool: []string{one}, Forks: []api.Fork{a, {Name: "b", Head: "heads/x"}}}
	fmt.Println(root.Named("a"), root.Named("A"), root.Right(r))
	b, is := root.Put(r)
	fmt.Println(string(b) == "net 3\npool 1\n"+one+"\nforks 2\nfork a linked heads/main 1 0\n"+one+" heads/main\nfork b alone heads/x 0 0\n", is)
	again, is := root.Get(b)
	fmt.Println(again.Count, len(again.Forks), is)
	fmt.Println(root.Find(again, "b"), root.Find(again, "c"))
	_, is = root.Get(b[1:])
	fmt.Println(is)
	r.Forks[1].Head = "tags/x"
	_, is = root.Put(r)
	fmt.Println(is)
	// Output:
	// true false true
	// true true
	// 3 2 true
	// 1 -1
	// false
	// false
}
