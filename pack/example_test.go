package pack_test

import (
	"fmt"

	"sacristy/api"
	"sacristy/delta"
	"sacristy/object"
	"sacristy/pack"
	"sacristy/walk"
)

// The one that the README shows.
func Example() {
	one := api.Obj{Kind: api.Blob, Data: "abcdef"}
	l := pack.Whole(walk.Set([]api.Obj{one}))
	l = append(l, api.Entry{Kind: api.Back, Back: 1, Data: delta.Make("abcdef", "xabcdef")})
	b, e := pack.Put(l)
	fmt.Printf("%q %d\n", b[:14], int(e))
	again, _ := pack.Get(b)
	_, e = pack.Get(b[1:])
	fmt.Println(len(again), int(e))
	objs, _ := pack.Resolve(again, nil)
	deep, _ := pack.Deep(again, nil)
	fmt.Println(objs[1].Data, deep)
	thin := []api.Entry{{Kind: api.Base, Base: object.Id(one), Data: l[1].Data}}
	_, e = pack.Resolve(thin, nil)
	fmt.Println(int(e))
	objs, e = pack.Resolve(thin, walk.Set(objs))
	fmt.Println(objs[0].Data, int(e))
	// Output:
	// "PAKS\x02\x01\x06abcdef\x06" 0
	// 2 3
	// xabcdef [0 1]
	// 51
	// xabcdef 0
}
