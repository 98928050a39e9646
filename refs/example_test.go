package refs_test

import (
	"fmt"

	"sacristy/api"
	"sacristy/digest"
	"sacristy/refs"
)

// The one that the README shows.
func Example() {
	one, two := digest.Name([]byte("one")), digest.Name([]byte("two"))
	l, e, _ := refs.Apply(nil, []api.Update{{Name: "tags/v1", New: one}, {Name: "heads/a", New: one}})
	fmt.Println(int(e), len(l), l[0].Name, refs.Right(l))
	fmt.Println(refs.Find(l, "heads/a") == one, len(refs.Tips(l)))
	_, e, at := refs.Apply(l, []api.Update{{Name: "heads/b", New: two}, {Name: "heads/a", Old: two, New: one}})
	fmt.Println(int(e), at)
	_, e, at = refs.Apply(l, []api.Update{{Name: "heads/a/b", New: two}})
	fmt.Println(int(e), at)
	l, e, _ = refs.Apply(l, []api.Update{{Name: "heads/a/b", New: two}, {Name: "heads/a", Old: one}})
	fmt.Println(int(e), l[0].Name)
	s, is := refs.Put(l)
	fmt.Println(s == two+" heads/a/b\n"+one+" tags/v1\n", is)
	again, is := refs.Get(s)
	fmt.Println(len(again), is)
	_, is = refs.Get(s[1:])
	fmt.Println(is)
	// Output:
	// 0 2 heads/a true
	// true 1
	// 92 1
	// 91 0
	// 0 heads/a/b
	// true true
	// 2 true
	// false
}
