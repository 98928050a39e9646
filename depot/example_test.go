package depot_test

import (
	"fmt"

	"sacristy/api"
	"sacristy/delta"
	"sacristy/depot"
	"sacristy/shelf"
)

// The one that the README shows.
func Example() {
	s := shelf.New(1 << 20)
	one := api.Entry{Kind: api.Blob, Data: "abcdef"}
	two := api.Entry{Kind: api.Back, Back: 1, Data: delta.Make("abcdef", "xabcdef")}
	a, e := depot.Save(s, "own", []api.Entry{one, two})
	fmt.Println(len(s.Files()), s.Files()[1].Path == "own/"+a+".pack", int(e))
	l, e := depot.Load(s, "own", a)
	fmt.Println(len(l), int(e))
	b, _ := depot.Save(s, "own", []api.Entry{one})
	l, e = depot.All(s, "own", []string{a, b})
	fmt.Println(len(l), int(e))
	e = depot.Sweep(s, "own", []string{b})
	fmt.Println(len(s.Files()), int(e))
	_, e = depot.Load(s, "own", a)
	fmt.Println(int(e))
	s.Write("own/"+b+".pack", []byte("x"))
	_, e = depot.Load(s, "own", b)
	fmt.Println(int(e))
	// Output:
	// 2 true 0
	// 2 0
	// 2 0
	// 2 0
	// 12
	// 3
}
