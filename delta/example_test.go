package delta_test

import (
	"fmt"

	"sacristy/delta"
)

// The one that the README shows.
func Example() {
	d := delta.Make("abcdef", "xabcdef")
	fmt.Printf("%q\n", d)
	s, e := delta.Apply("abcdef", d)
	fmt.Println(s, int(e))
	_, e = delta.Apply("abcde", d)
	fmt.Println(int(e))
	// Output:
	// "\x06\a\x01x\x80\x00\x06"
	// xabcdef 0
	// 3
}
