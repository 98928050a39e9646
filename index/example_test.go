package index_test

import (
	"fmt"

	"sacristy/digest"
	"sacristy/index"
)

// The one that the README shows.
func Example() {
	one, two := digest.Name([]byte("one")), digest.Name([]byte("two"))
	b, e := index.Put([]string{one, two})
	fmt.Println(len(b), int(e), index.Right(b), index.Right(b[1:]))
	place, is := index.Find(b, two)
	fmt.Println(place, is)
	place, is = index.Find(b, digest.Name(nil))
	fmt.Println(place, is)
	all := index.All(b)
	fmt.Println(all[0] == two, all[1] == one)
	_, e = index.Put([]string{one, one})
	fmt.Println(int(e))
	// Output:
	// 612 0 true false
	// 1 true
	// 0 false
	// true true
	// 91
}
