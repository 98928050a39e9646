package digest_test

import (
	"fmt"

	"sacristy/digest"
)

// The one that the README shows.
func Example() {
	name := digest.Name([]byte("abc"))
	fmt.Println(name[:8], digest.Named(name), digest.Named("abc"))
	// Output: ba7816bf true false
}
