package num_test

import (
	"fmt"

	"sacristy/num"
)

// The one that the README shows.
func Example() {
	b := num.Put(300)
	n, k, is := num.Get(append(b, 7))
	fmt.Println(b, n, k, is)
	m, is := num.Decimal(num.Text(300))
	fmt.Println(m, is)
	_, is = num.Decimal("0300")
	fmt.Println(is)
	// Output:
	// [172 2] 300 2 true
	// 300 true
	// false
}
