package island

import (
	"strings"
	"testing"

	"sacristy/delta"
)

// least is what a text made of itself has, and no delta that is shorter than its text is shorter: where the numbers of both lengths get a digit more, too.
func TestLeast(t *testing.T) {
	const k, kk = 1 << 7, 1 << 14
	text := strings.Repeat("x", 2*kk)
	for _, edge := range []int{5, k, 2 * k, kk, 2*kk - 3} {
		for n := max(5, edge-3); n < edge+3; n++ {
			if got := len(delta.Make(text[:n], text[:n])); got != least(n) {
				t.Error(n, got, least(n))
			}
			for _, m := range []int{0, 1, 5, 6, 63, 64, 65, k - 2, k - 1, k, k + 1, 2 * k, kk - 2, kk - 1, kk, kk + 1, n - 2, n - 1, n, n + 1} {
				if got := len(delta.Make(text[:min(m, len(text))], text[:n])); got < min(n, least(n)) {
					t.Error(m, n, got, least(n))
				}
			}
		}
	}
	for n := range 5 {
		if least(n) < n || len(delta.Make(text[:n], text[:n])) < n {
			t.Error(n)
		}
	}
}

// All short texts of two bytes.
func TestLeastAll(t *testing.T) {
	var l []string
	for n := range 9 {
		for i := range 1 << n {
			b := make([]byte, n)
			for at := range b {
				b[at] = "ab"[i>>at%2]
			}
			l = append(l, string(b))
		}
	}
	for _, base := range l {
		for _, text := range l {
			if got := len(delta.Make(base, text)); got < min(len(text), least(len(text))) {
				t.Error(base, text, got)
			}
		}
	}
}
