package line_test

import (
	"fmt"

	"sacristy/api"
	"sacristy/line"
)

// The one that the README shows.
func Example() {
	b, e := line.Put([]api.Line{{Data: "hi"}, {Flush: true}})
	fmt.Println(string(b), int(e))
	l, left, e := line.Cut(append(b, "0007a"...))
	fmt.Println(l, string(left), int(e))
	l, left, e = line.Cut(append(left, "bc"...))
	fmt.Println(l, len(left), int(e))
	_, _, e = line.Cut([]byte("0004"))
	fmt.Println(int(e))
	l = line.Parts(make([]byte, 5000))
	fmt.Println(len(l[0].Data), len(l[1].Data), l[2].Flush)
	fmt.Println(len(line.Join(l)))
	// Output:
	// 0006hi0000 0
	// [{false hi} {true }] 0007a 0
	// [{false abc}] 0 0
	// 3
	// 4000 1000 true
	// 5000
}
