package delta_test

import (
	"bytes"
	"math/rand"
	"slices"
	"strings"
	"sync"
	"testing"

	"sacristy/api"
	"sacristy/delta"
)

// checkApply holds what is answered against the twin.
func checkApply(t *testing.T, base, d string) {
	t.Helper()
	got, e := delta.Apply(base, d)
	want, no := twinApply(base, d)
	if got != want || e != no {
		t.Fatalf("Apply %q to %q: %q %v, not %q %v", d, base, got, e, want, no)
	}
}

// checkMake holds what is made against the twin, and has it applied (P6.2).
func checkMake(t *testing.T, base, text string) {
	t.Helper()
	d := delta.Make(base, text)
	if want := twinMake(base, text); d != want {
		t.Fatalf("Make of %q and %q: %q, not %q", base, text, d, want)
	}
	checkBack(t, base, text, d)
}

func checkBack(t *testing.T, base, text, d string) {
	t.Helper()
	if got, e := delta.Apply(base, d); got != text || e != api.OK {
		t.Fatalf("Apply %.99q to %.99q: %.99q %v, not %.99q", d, base, got, e, text)
	}
	checkOthers(t, base, d)
}

// checkOthers has a delta be none of bases of other lengths (P6.3).
func checkOthers(t *testing.T, base, d string) {
	t.Helper()
	for _, other := range []string{"", "x", base + "x", "x" + base, base + base, base[:len(base)/2], base[:max(1, len(base))-1], base + strings.Repeat("x", 127), base + strings.Repeat("x", 128)} {
		if len(other) == len(base) {
			continue
		}
		if got, e := delta.Apply(other, d); got != "" || e != api.ErrCorrupt {
			t.Fatalf("Apply %.99q to %.99q: %.99q %v", d, other, got, e)
		}
	}
}

// P6.1, F1
func TestApply(t *testing.T) {
	long := strings.Repeat("0123456789", 30)
	for _, c := range []struct{ base, steps, want string }{
		{"", "", ""},
		{"abcdef", "", ""},
		{"", "\x01x", "x"},
		{"", "\x01\x80", "\x80"},
		{"", "\x02\x00\x00", "\x00\x00"},
		{"abcdef", "\x01x\x80\x00\x06", "xabcdef"},
		{"abcdef", "\x80\x00\x06", "abcdef"},
		{"abcdef", "\x80\x00\x01", "a"},
		{"abcdef", "\x80\x05\x01", "f"},
		{"abcdef", "\x80\x02\x02\x80\x02\x02\x80\x01\x03", "cdcdbcd"},
		{"abcdef", "\x80\x05\x01\x03\x80\x00\x06\x80\x00\x01", "f\x80\x00\x06a"},
		{"abcdef", "\x01x\x01y\x02zz", "xyzz"},
		{"\x00", "\x80\x00\x01\x80\x00\x01", "\x00\x00"},
		{"a", strings.Repeat("\x80\x00\x01", 200), strings.Repeat("a", 200)},
		{"", "\x7f" + long[:127], long[:127]},
		{"", "\x7f" + long[:127] + "\x7f" + long[:127], long[:127] + long[:127]},
		{long, "\x80\x00\xac\x02", long},
		{long, "\x80\xab\x02\x01", "9"},
		{long, "\x80\x80\x01\xac\x01", long[128:]},
		{long, "\x80\x7f\x80\x01", long[127:255]},
	} {
		d := number(len(c.base)) + number(len(c.want)) + c.steps
		if got, e := delta.Apply(c.base, d); got != c.want || e != api.OK {
			t.Errorf("%q to %q: %q %v, not %q", d, c.base, got, e, c.want)
		}
		checkApply(t, c.base, d)
		checkOthers(t, c.base, d)
		for _, n := range []int{0, len(c.want) - 1, len(c.want) + 1, len(c.want) + 128, 2 * len(c.want), 1 << 31, 1<<40 - 1, 1 << 40} {
			if n >= 0 && n != len(c.want) {
				checkNone(t, c.base, number(len(c.base))+number(n)+c.steps)
			}
		}
	}
}

func checkNone(t *testing.T, base, d string) {
	t.Helper()
	if got, e := delta.Apply(base, d); got != "" || e != api.ErrCorrupt {
		t.Errorf("%.99q to %.99q: %.99q %v", d, base, got, e)
	}
}

// P6.1, F1: what is no delta.
func TestApplyNone(t *testing.T) {
	for _, c := range []struct{ base, d string }{
		{"", ""},
		{"", "\x00"},
		{"", "\x80"},
		{"", "\x80\x00"},
		{"", "\x80\x00\x00"},
		{"", "\x00\x80"},
		{"", "\x00\x80\x00"},
		{"", "\x00\x00\x00"},
		{"", "\x00\x00\x80\x00\x00"},
		{"", "\x00\x01\x80\x00\x01"},
		{"", "\x01\x01\x01x"},
		{"", "\x00\x00\x01x"},
		{"abcdef", ""},
		{"abcdef", "\x06"},
		{"abcdef", "abcdef"},
		{"abcdef", "\x86\x00\x06\x80\x00\x06"},                 // 6, as it isn't written
		{"abcdef", "\x06\x86\x00\x80\x00\x06"},                 // likewise
		{"abcdef", "\x06\x06\x80\x80\x00\x06"},                 // 0, as it isn't written
		{"abcdef", "\x06\x06\x80\x00\x86\x00"},                 // 6, as it isn't written
		{"abcdef", "\x05\x06\x80\x00\x06"},                     // another base
		{"abcdef", "\x07\x06\x80\x00\x06"},                     // likewise
		{"abcdef", "\x06\x05\x80\x00\x06"},                     // more than is said
		{"abcdef", "\x06\x07\x80\x00\x06"},                     // less
		{"abcdef", "\x06\x00\x01x"},                            // more
		{"abcdef", "\x06\x01"},                                 // less
		{"abcdef", "\x06\x07\x80\x00\x07"},                     // beyond the base
		{"abcdef", "\x06\x06\x80\x01\x06"},                     // likewise
		{"abcdef", "\x06\x01\x80\x06\x01"},                     // likewise
		{"abcdef", "\x06\x01\x80\x07\x01"},                     // likewise
		{"abcdef", "\x06\x01\x80\x80\x80\x80\x80\x80\x20\x01"}, // from 2^40 on
		{"abcdef", "\x06\x06\x80\x00\x80\x80\x80\x80\x80\x20"}, // 2^40 bytes
		{"abcdef", "\x06\x06\x80\x80\x80\x80\x80\x80\x20\x80\x80\x80\x80\x80\x20"},
		{"abcdef", "\x06\x06\x80\x81\x80\x80\x80\x80\x20\x06"},     // more than a number
		{"abcdef", "\x06\x00\x80\x00\x00"},                         // a copy of nothing
		{"abcdef", "\x06\x00\x80\x06\x00"},                         // likewise
		{"abcdef", "\x06\x06\x80\x00\x00\x80\x00\x06"},             // likewise
		{"abcdef", "\x06\x06\x80\x00\x06\x80\x00\x00"},             // likewise
		{"abcdef", "\x06\x00\x00"},                                 // an insert of nothing
		{"abcdef", "\x06\x06\x00\x80\x00\x06"},                     // likewise
		{"abcdef", "\x06\x06\x80\x00\x06\x00"},                     // likewise
		{"abcdef", "\x06\x01\x81x"},                                // no step's byte
		{"abcdef", "\x06\x06\x81\x00\x06"},                         // likewise
		{"abcdef", "\x06\x06\xff\x00\x06"},                         // likewise
		{"abcdef", "\x06\x81\x01\x81" + strings.Repeat("x", 129)},  // likewise
		{"abcdef", "\x06\x80\x01\x80" + strings.Repeat("x", 128)},  // an insert that is too long
		{"abcdef", "\x06\xff\x01\xff" + strings.Repeat("x", 255)},  // likewise
		{"abcdef", "\x06\x02\x01x"},                                // less than is said
		{"abcdef", "\x06\x02\x02x"},                                // an insert that is cut
		{"abcdef", "\x06\x01\x02x"},                                // likewise
		{"abcdef", "\x06\x01\x02xy"},                               // more than is said
		{"abcdef", "\x06\x7e\x7f" + strings.Repeat("x", 126)},      // cut
		{"abcdef", "\x06\x7f\x7f" + strings.Repeat("x", 126)},      // likewise
		{"abcdef", "\x06\x06\x80\x00\x06x"},                        // something behind it
		{"abcdef", "\x06\x06\x80\x00\x06\x80"},                     // likewise
		{"abcdef", "\x06\x06\x80\x00\x06\x80\x00"},                 // likewise
		{"abcdef", "\x06\x06\x80\x00\x06\x01"},                     // likewise
		{"abcdef", "\x06\x01\x01x\x80\x06\x01"},                    // likewise
		{"abcdef", "\x06\x0c\x80\x00\x06\x80\x00\x06\x80\x00\x06"}, // more than is said
	} {
		checkNone(t, c.base, c.d)
		checkApply(t, c.base, c.d)
	}
}

// P6.1, F1: all deltas of some bytes that are edges.
func TestApplyAll(t *testing.T) {
	edges := []byte{0, 1, 2, 3, 127, 128, 129, 255}
	b := make([]byte, 5)
	for i := range 1 << 15 {
		for at := range b {
			b[at] = edges[i>>(3*at)%8]
		}
		for end := range len(b) + 1 {
			checkApply(t, "ab", "\x02"+string(b[:end]))
			checkApply(t, "", "\x00\x02"+string(b[:end]))
			checkApply(t, "ab", "\x02\x03\x01x"+string(b[:end]))
		}
	}
}

// near are texts that a delta is changed to: by one byte, and cut.
func near(d string) []string {
	var l []string
	for i := range len(d) {
		for _, by := range []byte{0, 1, 127, 128, 129, 255, d[i] + 1, d[i] - 1, d[i] ^ 128} {
			l = append(l, d[:i]+string([]byte{by})+d[i+1:], d[:i]+string([]byte{by})+d[i:])
		}
		l = append(l, d[:i], d[:i]+d[i+1:], d[i:], d[:i]+d)
	}
	return append(l, d+"\x00", d+"\x01", d+"\x80", d+"x", d+d)
}

// P6.1, F1: texts near to a delta.
func TestApplyNear(t *testing.T) {
	long := strings.Repeat("0123456789", 20)
	for _, c := range [][2]string{
		{"", ""}, {"", "x"}, {"x", ""}, {"abcdef", "xabcdef"}, {"abcdef", "abcdefabcdex"}, {long, "x" + long + "y"}, {long, long[100:] + "-" + long[:130]},
	} {
		d := delta.Make(c[0], c[1])
		for _, other := range near(d) {
			checkApply(t, c[0], other)
		}
	}
}

// P6.1, F2
func TestMake(t *testing.T) {
	long := strings.Repeat("x", 1000)
	for _, c := range []struct{ base, text, steps string }{
		{"", "", ""},
		{"abcdef", "", ""},
		{"", "a", "\x01a"},
		{"", "abcdef", "\x06abcdef"},
		{"abcdef", "xabcdef", "\x01x\x80\x00\x06"},
		{"abcdef", "abcdef", "\x80\x00\x06"},
		{"abcdef", "abcdefx", "\x80\x00\x06\x01x"},
		{"abcdef", "abcde", "\x80\x00\x05"},
		{"abcdef", "bcdef", "\x80\x01\x05"},
		{"abcdef", "abcd", "\x04abcd"},
		{"abcde", "abcde", "\x80\x00\x05"},
		{"abcd", "abcd", "\x04abcd"},
		{"abcd", "abcdabcd", "\x08abcdabcd"},
		{"abcdef", "fedcba", "\x06fedcba"},
		{"\x00\x00\x00\x00\x00", "\x00\x00\x00\x00\x00", "\x80\x00\x05"},
		{"\x80\xff\xfe\xfd\xfc", "\x80\xff\xfe\xfd\xfc\x80", "\x80\x00\x05\x01\x80"},
		// of several the first
		{"abcdeabcdeabcde", "abcde", "\x80\x00\x05"},
		{"xabcdeyabcdez", "abcde", "\x80\x01\x05"},
		{"xabcdeyabcdez", "abcde!abcde", "\x80\x01\x05\x01!\x80\x01\x05"},
		{"xabcdxabcdexabcde", "abcde", "\x80\x06\x05"},
		// the longest, though it is not the first
		{"abcdexabcdefxabcdefg", "abcdefg", "\x80\x0d\x07"},
		{"abcdexabcdefxabcdef", "abcdefg", "\x80\x06\x06\x01g"},
		{"abcdefgxabcde", "abcdex", "\x80\x00\x05\x01x"},
		{"abcdefgxabcde", "abcdefgxabcdey", "\x80\x00\x0d\x01y"},
		// the longest at the first place, though a longer one begins a byte behind it
		{"abcde-bcdefghi", "abcdefghi", "\x80\x00\x05\x04fghi"},
		{"abcde-bcdefghijk", "abcdefghijk", "\x80\x00\x05\x80\x0a\x06"},
		// it stands over its own beginning
		{"aaaaaaaa", "aaaaaaaaaaaa", "\x80\x00\x08\x04aaaa"},
		{"aaaaaaaa", "aaaaaaaaaaaaa", "\x80\x00\x08\x80\x00\x05"},
		{"ababababa", "babababab", "\x80\x01\x08\x01b"},
		{"01234567", "3456701234", "\x80\x03\x05\x80\x00\x05"},
		// what is put off stands ahead of the next copy, as one
		{"abcdef", "abcdabcdef", "\x04abcd\x80\x00\x06"},
		{"abcdef", "abcdxbcdeabcdefabcd", "\x09abcdxbcde\x80\x00\x06\x04abcd"},
		// 127 at a time
		{"", long[:126], "\x7e" + long[:126]},
		{"", long[:127], "\x7f" + long[:127]},
		{"", long[:128], "\x7f" + long[:127] + "\x01x"},
		{"", long[:254], "\x7f" + long[:127] + "\x7f" + long[:127]},
		{"", long[:255], "\x7f" + long[:127] + "\x7f" + long[:127] + "\x01x"},
		{"abcdef", long[:127] + "abcdef" + long[:130], "\x7f" + long[:127] + "\x80\x00\x06\x7f" + long[:127] + "\x03xxx"},
		{"abcdef", long[:128] + "abcdef" + long[:127], "\x7f" + long[:127] + "\x01x\x80\x00\x06\x7f" + long[:127]},
		// numbers of more bytes
		{long, long, "\x80\x00\xe8\x07"},
		{long, long + long[:127], "\x80\x00\xe8\x07\x80\x00\x7f"},
		{long + "abcdef", "abcdef", "\x80\xe8\x07\x06"},
		{long[:127] + "abcdef", "abcdef", "\x80\x7f\x06"},
		{long[:128] + "abcdef", "abcdef", "\x80\x80\x01\x06"},
	} {
		if d := delta.Make(c.base, c.text); d != number(len(c.base))+number(len(c.text))+c.steps {
			t.Errorf("%q and %q: %q, not %q", c.base, c.text, d, c.steps)
		}
		checkMake(t, c.base, c.text)
	}
}

// P6.1, F2: all short bases and texts of two bytes.
func TestMakeAll(t *testing.T) {
	var l []string
	for n := range 11 {
		for i := range 1 << n {
			b := make([]byte, n)
			for at := range b {
				b[at] = byte(i >> at % 2)
			}
			l = append(l, string(b))
		}
	}
	for i, base := range l {
		for _, text := range l[i%7:] {
			if len(base)+len(text) < 15 || i%29 == 0 {
				checkMake(t, base, text)
			}
		}
	}
}

// some is a text by chance, of few bytes or of all.
func some(r *rand.Rand, most, bytes int) string {
	b := make([]byte, r.Intn(most+1))
	for i := range b {
		b[i] = byte(r.Intn(bytes) * 37)
	}
	return string(b)
}

// mixed is a text of parts of another one, and of others.
func mixed(r *rand.Rand, base string, parts, bytes int) string {
	out := ""
	for range r.Intn(parts + 1) {
		from := r.Intn(len(base) + 1)
		out += base[from:min(len(base), from+r.Intn(40))] + some(r, 6, bytes)
	}
	return out
}

// P6.1, P6.2
func TestByChance(t *testing.T) {
	r := rand.New(rand.NewSource(1))
	for range 6000 {
		bytes := []int{1, 2, 3, 5, 256}[r.Intn(5)]
		base := some(r, []int{6, 20, 100, 400}[r.Intn(4)], bytes)
		if r.Intn(3) == 0 {
			base = mixed(r, base, 8, bytes)
		}
		text := mixed(r, base, 8, bytes)
		checkMake(t, base, text)
		checkMake(t, text, base)
		d := []byte(delta.Make(base, text))
		for range 3 {
			d[r.Intn(len(d))] = byte(r.Intn(256))
			checkApply(t, base, string(d))
		}
	}
}

// P6.1: steps by chance, as Make does not make them.
func TestApplyByChance(t *testing.T) {
	r := rand.New(rand.NewSource(2))
	for range 20000 {
		base := some(r, 300, 256)
		steps := ""
		for range r.Intn(6) {
			if r.Intn(2) == 0 {
				steps += insert(some(r, 200, 256))
			} else {
				from := r.Intn(len(base) + 2)
				steps += copies(from, max(0, r.Intn(len(base)+2-min(from, len(base)))-r.Intn(2)))
			}
		}
		text, _ := twinSteps(base, steps)
		checkApply(t, base, number(len(base))+number(len(text))+steps)
		checkApply(t, base, number(len(base))+number(len(text)+1-r.Intn(2))+steps)
	}
}

// P6.3: a text made of itself.
func TestItself(t *testing.T) {
	r := rand.New(rand.NewSource(3))
	for n := range 600 {
		for _, text := range []string{strings.Repeat("x", n), some(r, n, 256) + "12345", some(r, n, 2) + "12345", strings.Repeat("ab", n)} {
			d := delta.Make(text, text)
			want := number(len(text)) + number(len(text)) + copies(0, len(text))
			if len(text) < 5 {
				want = number(len(text)) + number(len(text)) + insert(text)
			}
			if d != want {
				t.Fatalf("%q: %q, not %q", text, d, want)
			}
			checkBack(t, text, text, d)
		}
	}
}

// P1: texts as long as objects may be, and longer, that say the same on and on, nearly, or never.
func TestLong(t *testing.T) {
	r := rand.New(rand.NewSource(4))
	const n = 1 << 19
	fib, next := "a", "ab"
	for len(fib) < n {
		fib, next = next, next+fib
	}
	chance := func(n, bytes int) string {
		b := make([]byte, n)
		for i := range b {
			b[i] = byte(r.Intn(bytes))
		}
		return string(b)
	}
	zeros := string(make([]byte, n))
	for _, c := range [][2]string{
		{zeros, zeros},
		{zeros, zeros[:n/2] + "x" + zeros[:n/2]},
		{zeros, strings.Repeat("\x00\x00\x00\x00\x00x", n/6)},
		{strings.Repeat("\x00\x00\x00\x00\x00x", n/6), zeros},
		{zeros + "x", strings.Repeat(zeros[:n/64]+"x", 64)},
		{strings.Repeat("ab", n/2), strings.Repeat("ba", n/2) + "x"},
		{fib[:n], fib[1:n]},
		{fib[:n], "b" + fib[:n/2] + "x" + fib},
		{chance(n, 2), chance(n, 2)},
		{chance(n/8, 256), chance(n/8, 256)},
		{"", zeros},
		{zeros, ""},
		{"abcde", chance(n, 256)},
	} {
		checkBack(t, c[0], c[1], delta.Make(c[0], c[1]))
	}
	text := chance(api.MaxData, 256)
	d := delta.Make(text, text[:30000]+"x"+text[30000:])
	if d != number(1<<16)+number(1<<16+1)+copies(0, 30000)+"\x01x"+copies(30000, 1<<16-30000) {
		t.Errorf("%.99q", d)
	}
}

// P1, P6.1: few bytes that would make more than there is room for are none.
func TestMuch(t *testing.T) {
	base := string(make([]byte, 1<<20))
	all := strings.Repeat(copies(0, len(base)), 1<<18)
	for _, n := range []int{0, 1, 1 << 20, 1 << 37, 1<<38 - 1, 1<<38 + 1, 1 << 40} {
		checkNone(t, base, number(len(base))+number(n)+all)
	}
	// 2^38 bytes, and one step that is wrong
	checkNone(t, base, number(len(base))+number(1<<38)+all+"\x00")
	checkNone(t, base, number(len(base))+number(1<<38)+all+"\x02x")
	if got, e := delta.Apply(base, number(len(base))+number(1<<24)+strings.Repeat(copies(0, len(base)), 1<<4)); len(got) != 1<<24 || e != api.OK {
		t.Error(len(got), e)
	}
}

// P3: calls at once, and one after the other, answer as each does alone.
func TestAlone(t *testing.T) {
	var calls sync.WaitGroup
	for n := range 8 {
		calls.Go(func() {
			r := rand.New(rand.NewSource(int64(n)))
			for range 200 {
				base := some(r, 60, 3)
				text := mixed(r, base, 4, 3)
				d := delta.Make(base, text)
				got, e := delta.Apply(base, d)
				if d != twinMake(base, text) || d != delta.Make(base, text) || got != text || e != api.OK {
					t.Errorf("%q %q", base, text)
				}
			}
		})
	}
	calls.Wait()
}

// The twin of the steps holds for itself: what it puts, it reads.
func TestTwin(t *testing.T) {
	long := strings.Repeat("0123456789", 30)
	for n := range 300 {
		if s, is := twinSteps(long, insert(long[:n])+copies(n, 300-n)); s != long || !is {
			t.Fatal(n, s)
		}
	}
	if !bytes.Equal([]byte(insert(long[:128])), slices.Concat([]byte{127}, []byte(long[:127]), []byte{1}, []byte(long[127:128]))) {
		t.Error(insert(long[:128]))
	}
}
