package shelf_test

import (
	"fmt"

	"sacristy/shelf"
)

// The one that the README shows.
func Example() {
	s := shelf.New(1000)
	s.Write("a/x", []byte("one"))
	s.Sync("a")
	s.Write("a/x", []byte("two"))
	s.Rename("a/x", "a/y")
	s.Crash([]bool{true, false})
	b, e := s.Read("a/x")
	fmt.Println(string(b), int(e))
	// Output: two 0
}
