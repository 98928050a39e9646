package index_test

import (
	"bytes"
	"encoding/binary"
	"encoding/hex"
	"fmt"
	"math/big"
	"math/rand"
	"slices"
	"strings"
	"sync"
	"testing"

	"sacristy/api"
	"sacristy/digest"
	"sacristy/index"
)

// name begins with a text, and ends with another one.
func name(begin, end string) string {
	return begin + strings.Repeat("0", 64-len(begin)-len(end)) + end
}

// names are n sums.
func names(n int) []string {
	var ids []string
	for i := range n {
		ids = append(ids, digest.Name([]byte{byte(i >> 8), byte(i)}))
	}
	return ids
}

// numbered are n names that begin alike, and end with numbers.
func numbered(begin string, n int) []string {
	var ids []string
	for i := range n {
		ids = append(ids, name(begin, fmt.Sprintf("%04x", i)))
	}
	return ids
}

// firsts are names of each first byte, n of each.
func firsts(n int) []string {
	var ids []string
	for c := range 256 {
		ids = append(ids, numbered(fmt.Sprintf("%02x", c), n)...)
	}
	return ids
}

// lists are such as may be put.
func lists() [][]string {
	zero, last := strings.Repeat("0", 64), strings.Repeat("f", 64)
	l := [][]string{
		nil, {}, {zero}, {last}, {zero, last}, {last, zero},
		{name("7f", "f"), name("80", ""), name("7f", "0")},
		{name("00", "1"), zero, name("01", ""), name("ff", ""), last, name("fe", "ff")},
		names(1), names(2), names(3), names(255), names(256), names(257), names(511), names(512),
		numbered("", 512), numbered("00", 3), numbered("ab", 512), numbered("ff", 511), numbered("ff", 1),
		slices.Concat(numbered("00", 256), numbered("ff", 256)),
		slices.Concat(numbered("0", 1), numbered("a0", 5), numbered("a1", 1), numbered("f0", 30)),
		firsts(1), firsts(2), firsts(1)[1:], firsts(1)[:255],
	}
	r := rand.New(rand.NewSource(1))
	for _, ids := range slices.Clone(l) {
		back := slices.Clone(ids)
		slices.Reverse(back)
		some := slices.Clone(ids)
		r.Shuffle(len(some), func(i, j int) { some[i], some[j] = some[j], some[i] })
		l = append(l, back, some)
	}
	return l
}

func put(t *testing.T, ids []string) []byte {
	t.Helper()
	b, e := index.Put(ids)
	if e != api.OK {
		t.Fatal(len(ids), e)
	}
	return b
}

// P8.1, H1: what an index is, byte by byte.
func TestPutKnown(t *testing.T) {
	none := make([]byte, 512)
	for _, ids := range [][]string{nil, {}} {
		if b := put(t, ids); !bytes.Equal(b, sealed(none)) {
			t.Error(b)
		}
	}
	one, two, three := name("01", "2a"), name("03", ""), name("01", "29")
	want := make([]byte, 512+3*34)
	for c := range 256 {
		want[2*c+1] = []byte{0, 2, 2, 3}[min(c, 3)]
	}
	want[512], want[512+31], want[512+33] = 1, 0x29, 2
	want[546], want[546+31], want[546+33] = 1, 0x2a, 0
	want[580], want[580+33] = 3, 1
	if b := put(t, []string{one, two, three}); !bytes.Equal(b, sealed(want)) {
		t.Error(b)
	}
	// The higher byte goes first.
	b := put(t, numbered("ee", 512))
	if !bytes.Equal(b[510:512], []byte{2, 0}) || !bytes.Equal(b[2*0xee:][:2], []byte{2, 0}) || !bytes.Equal(b[2*0xed:][:2], []byte{0, 0}) {
		t.Error(b[:512])
	}
	if row := b[512+34*0x103:][:34]; !bytes.Equal(row[30:], []byte{1, 3, 1, 3}) {
		t.Error(row)
	}
}

// P8.1, H1: the errors of Put, and which of several goes first.
func TestPutErrors(t *testing.T) {
	most := names(513)
	good := most[:512]
	zero := strings.Repeat("0", 64)
	with := func(ids []string, at int, id string) []string { return slices.Insert(slices.Clone(ids), at, id) }
	cases := []struct {
		ids  []string
		want api.Errno
	}{
		{good, api.OK},
		{most, api.ErrTooMany},
		{make([]string, 513), api.ErrTooMany},
		{slices.Repeat([]string{zero}, 513), api.ErrTooMany},
		{make([]string, 100000), api.ErrTooMany},
		{make([]string, 512), api.ErrArg},
		{slices.Repeat([]string{zero}, 512), api.ErrThere},
		{[]string{zero, zero}, api.ErrThere},
		{[]string{zero, good[0], zero}, api.ErrThere},
		{[]string{"x", "x"}, api.ErrArg},
		{[]string{zero, zero, "x"}, api.ErrArg},
		{[]string{"x", zero, zero}, api.ErrArg},
	}
	for _, id := range noNames() {
		for _, at := range []int{0, 1, 200, 511} {
			cases = append(cases, struct {
				ids  []string
				want api.Errno
			}{with(good[:511], at, id), api.ErrArg})
		}
	}
	for _, at := range []int{0, 1, 255, 510} {
		cases = append(cases, struct {
			ids  []string
			want api.Errno
		}{with(good[:511], 511, good[at]), api.ErrThere})
	}
	for i, c := range cases {
		b, e := index.Put(c.ids)
		if e != c.want || e != api.OK && b != nil {
			t.Error(i, e, len(b))
		}
	}
}

// noNames are texts that are none.
func noNames() []string {
	zero := strings.Repeat("0", 64)
	return []string{"", "0", zero[1:], zero + "0", zero + zero, zero[1:] + "A", zero[1:] + "g", zero[1:] + "G", "/" + zero[1:], ":" + zero[1:],
		"`" + zero[1:], "@" + zero[1:], zero[1:] + "\x00", "\xff" + zero[1:], zero[2:] + "é", strings.ToUpper(name("ab", "")), "0x" + zero[2:], zero[1:] + "\n"}
}

// P8.1, P8.2, P8.3: of each list that may be put.
func TestThereAndBack(t *testing.T) {
	for at, ids := range lists() {
		b := put(t, ids)
		want, e := twinPut(ids)
		if !bytes.Equal(b, want) || e != api.OK || len(b) != 512+34*len(ids)+32 || !index.Right(b) {
			t.Fatal(at, len(ids))
		}
		inOrder := make([]string, len(ids))
		all := index.All(b)
		if !slices.Equal(all, slices.Sorted(slices.Values(ids))) {
			t.Fatal(at, all)
		}
		for _, id := range all {
			place, _ := index.Find(b, id)
			inOrder[place] = id
		}
		if !slices.Equal(inOrder, ids) || !bytes.Equal(put(t, inOrder), b) {
			t.Fatal(at, inOrder)
		}
	}
}

// P8.2: each name is found at its place, and no other one is.
func TestFind(t *testing.T) {
	zero, last := strings.Repeat("0", 64), strings.Repeat("f", 64)
	others := append(noNames(), zero, last, name("00", "1"), name("7f", ""), name("80", ""), name("ff", "ff"), digest.Name(nil))
	for at, ids := range lists() {
		b := put(t, ids)
		for place, id := range ids {
			if n, is := index.Find(b, id); n != place || !is {
				t.Fatal(at, place, n, is)
			}
			if len(ids) > 40 && place%29 > 0 {
				continue
			}
			for _, other := range beside(id) {
				checkFind(t, b, ids, other)
			}
		}
		for _, other := range others {
			checkFind(t, b, ids, other)
		}
	}
}

func checkFind(t *testing.T, b []byte, ids []string, id string) {
	t.Helper()
	want := slices.Index(ids, id)
	if n, is := index.Find(b, id); is != (want >= 0) || n != max(want, 0) {
		t.Fatal(len(ids), id, n, is)
	}
}

// beside are texts near a name: the next names, those of which one digit is another one, and no names at all.
func beside(id string) []string {
	l := []string{strings.ToUpper(id), id[1:], id[:63], id + "0", " " + id[1:], id[2:] + "  "}
	for _, by := range []int64{-1, 1, 256, -256} {
		n, _ := new(big.Int).SetString(id, 16)
		n.Add(n, big.NewInt(by))
		if n.Sign() >= 0 && n.BitLen() <= 256 {
			l = append(l, hex.EncodeToString(n.FillBytes(make([]byte, 32))))
		}
	}
	for _, at := range []int{0, 1, 2, 31, 63} {
		c := []byte(id)
		c[at] = "123456789abcdef0"[strings.IndexByte("0123456789abcdef", c[at])]
		l = append(l, string(c))
	}
	return l
}

// checkBytes holds Right, All and Find against the twin.
func checkBytes(t *testing.T, b []byte) bool {
	t.Helper()
	ids, want := twinIds(b)
	if got := index.Right(b); got != want {
		t.Fatalf("%d bytes: %v", len(b), got)
	}
	if want {
		if !slices.Equal(index.All(b), slices.Sorted(slices.Values(ids))) {
			t.Fatal(index.All(b))
		}
		for at := 0; at < len(ids); at += 1 + len(ids)/8 {
			checkFind(t, b, ids, ids[at])
		}
		return true
	}
	if all := index.All(b); len(all) != 0 {
		t.Fatal(all)
	}
	for _, id := range append(ids[:min(len(ids), 3)], strings.Repeat("0", 64), "") {
		if n, is := index.Find(b, id); n != 0 || is {
			t.Fatal(id, n, is)
		}
	}
	return false
}

// P8.1, P8.3: bytes of which some were left out or put in; with the sum as it was, and made anew.
func TestLengths(t *testing.T) {
	for n := range 1200 {
		for _, fill := range []byte{0, 1, 255} {
			b := bytes.Repeat([]byte{fill}, n)
			checkBytes(t, b)
			if got := checkBytes(t, sealed(b)); got != (n == 512 && fill == 0) {
				t.Fatal(n, fill)
			}
		}
	}
	for _, ids := range [][]string{nil, names(1), names(3), firsts(2), numbered("00", 511), names(512)} {
		b := put(t, ids)
		told := b[:len(b)-32]
		for _, n := range []int{0, 1, 2, 31, 32, 33, 34, 35, 66, 68, 511, 512, 513, 544, len(told)} {
			for _, c := range []byte{0, 7, 255} {
				extra := bytes.Repeat([]byte{c}, n)
				wrong := [][]byte{slices.Concat(b, extra), slices.Concat(extra, b), slices.Concat(told, extra, b[len(told):]),
					sealed(slices.Concat(told, extra)), sealed(slices.Concat(extra, told)), sealed(slices.Concat(told[:512], extra, told[512:]))}
				if n <= len(told) {
					wrong = append(wrong, b[:len(b)-n], b[n:], sealed(told[:len(told)-n]), sealed(told[n:]))
				}
				for i, w := range wrong {
					if checkBytes(t, w) != bytes.Equal(w, b) {
						t.Fatal(len(ids), n, c, i)
					}
				}
			}
		}
	}
}

// P8.3: what has a byte more, whichever and wherever, is no index.
func TestByteMore(t *testing.T) {
	b := put(t, []string{name("01", "2a"), name("03", "")})
	for at := range len(b) + 1 {
		for _, c := range []byte{0, 1, 2, 3, 128, 255} {
			if checkBytes(t, slices.Insert(slices.Clone(b), at, c)) {
				t.Fatal(at, c)
			}
		}
	}
	told := b[:len(b)-32]
	for at := range len(told) + 1 {
		if checkBytes(t, sealed(slices.Insert(slices.Clone(told), at, 0))) {
			t.Fatal(at)
		}
	}
}

// P8.1: each byte changed. With the sum made anew it may be the index of others, as the twin tells.
func TestByteChanged(t *testing.T) {
	right := 0
	for _, ids := range [][]string{nil, {name("01", "2a")}, {name("03", "1"), name("01", "2a"), name("01", "29")}, {name("00", ""), name("ff", "")}} {
		b := put(t, ids)
		for at := range b {
			for _, by := range []byte{1, 2, 3, 0x80, 0xff, 0x29} {
				c := bytes.Clone(b)
				c[at] ^= by
				if checkBytes(t, c) {
					t.Fatal(at, by)
				}
				if at < len(b)-32 && checkBytes(t, sealed(c[:len(c)-32])) {
					right++
				}
			}
		}
	}
	if right < 500 {
		t.Error(right)
	}
}

// change is bytes of an index of some names, changed, with the sum made anew.
func change(ids []string, with func(b []byte)) []byte {
	b := twinTold(ids)
	with(b)
	return sealed(b)
}

// P8.1: what is nearly an index, its sum right.
func TestRight(t *testing.T) {
	ids := []string{name("10", "3"), name("10", "1"), name("20", "1"), name("ff", "")}
	row := func(b []byte, at int) []byte { return b[512+34*at:][:34] }
	swap := func(a, b []byte) {
		c := bytes.Clone(a)
		copy(a, b)
		copy(b, c)
	}
	for i, c := range []struct {
		b    []byte
		want bool
	}{
		{change(ids, func(b []byte) {}), true},
		{change(ids, func(b []byte) { swap(row(b, 0)[32:], row(b, 3)[32:]) }), true},    // of another order
		{change(ids, func(b []byte) { swap(row(b, 0), row(b, 1)) }), false},             // do not rise
		{change(ids, func(b []byte) { swap(row(b, 0)[:32], row(b, 1)[:32]) }), false},   // nor their sums alone
		{change(ids, func(b []byte) { swap(row(b, 2), row(b, 3)) }), false},             // nor the last ones
		{change(ids, func(b []byte) { copy(row(b, 1), row(b, 0)) }), false},             // one twice
		{change(ids, func(b []byte) { copy(row(b, 1)[:32], row(b, 0)[:32]) }), false},   // at two places
		{change(ids, func(b []byte) { copy(row(b, 1)[32:], row(b, 0)[32:]) }), false},   // two at one place
		{change(ids, func(b []byte) { copy(row(b, 3)[32:], row(b, 0)[32:]) }), false},   // far from one another
		{change(ids, func(b []byte) { row(b, 3)[33] = 4 }), false},                      // a place too many
		{change(ids, func(b []byte) { row(b, 0)[32] = 1 }), false},                      // far behind
		{change(ids, func(b []byte) { copy(row(b, 2)[32:], []byte{255, 255}) }), false}, // farther
		{change(ids, func(b []byte) { copy(row(b, 2)[32:], []byte{2, 0}) }), false},     // the first of those that are too many
		{change(ids, func(b []byte) { swap(row(b, 2)[32:33], row(b, 2)[33:]) }), false}, // the lower byte first
		{change(ids, func(b []byte) { b[511]++ }), false},                               // of the last byte
		{change(ids, func(b []byte) { b[511]-- }), false},                               // one too few
		{change(ids, func(b []byte) { b[1]++ }), false},                                 // of the first byte
		{change(ids, func(b []byte) { b[2*0x10+1]-- }), false},                          // of one that is there
		{change(ids, func(b []byte) { b[2*0x15] = 1 }), false},                          // of one that is not
		{change(ids, func(b []byte) { clear(b[:512]) }), false},                         // of none
		{change(ids, func(b []byte) { row(b, 1)[0] = 0x11 }), false},                    // another first byte
		{change(ids, func(b []byte) { row(b, 1)[31]++ }), true},                         // another name
		{change(ids, func(b []byte) { copy(b[2*0x10:], b[2*0x0f:2*0xff]) }), false},     // counted one further on
		{change(ids, func(b []byte) { copy(b[2*0x0f:], b[2*0x10:2*0x20]) }), false},     // one ahead
		{sealed(twinTold(names(512))), true},
		{sealed(twinTold(names(513))), false},
		{sealed(twinTold(numbered("00", 513))), false},
		{sealed(twinTold(numbered("00", 1024))), false},
		{sealed(twinTold([]string{name("00", ""), name("00", "")})), false},
		{sealed(make([]byte, 512+34)), false},
		{sealed(nil), false},
		{nil, false},
		{make([]byte, 544), false},
	} {
		if checkBytes(t, c.b) != c.want {
			t.Error(i)
		}
	}
}

// P8.1 to P8.3: lists by chance of few names, some of them none; and bytes by chance, of few rows.
func TestByChance(t *testing.T) {
	r := rand.New(rand.NewSource(2))
	some := append(slices.Concat(names(12), numbered("a0", 6), numbered("a1", 6)), "x")
	times := map[api.Errno]int{}
	for range 4000 {
		var ids []string
		for range r.Intn(10) {
			ids = append(ids, some[r.Intn(len(some))])
		}
		b, e := index.Put(ids)
		want, wrong := twinPut(ids)
		if !bytes.Equal(b, want) || e != wrong {
			t.Fatal(ids, e, wrong)
		}
		times[e]++
	}
	for _, e := range []api.Errno{api.OK, api.ErrArg, api.ErrThere} {
		if times[e] < 300 {
			t.Error(e, times)
		}
	}
	right := 0
	for range 4000 {
		ids := slices.Clone(some[:r.Intn(3)+1])
		b := twinTold(ids)
		for at := range ids {
			if r.Intn(3) > 0 {
				binary.BigEndian.PutUint16(b[512+34*at+32:], uint16(r.Intn(len(ids)+1)))
			}
		}
		if r.Intn(3) == 0 {
			b[2*r.Intn(256)+1] = byte(r.Intn(len(ids) + 1))
		}
		if checkBytes(t, sealed(b)) {
			right++
		}
	}
	if right < 500 || right > 3500 {
		t.Error(right)
	}
}

// P3: what is handed in stays, and its spare room; what comes out is new.
func TestHandedIn(t *testing.T) {
	room := append(names(300), "spare", "room")
	ids := room[:300]
	b := put(t, ids)
	if want := append(names(300), "spare", "room"); !slices.Equal(room, want) {
		t.Fatal("the names")
	}
	wide := append(bytes.Clone(b), bytes.Repeat([]byte{7}, 500)...)
	want := bytes.Clone(wide)
	bad := append(bytes.Clone(wide[:len(b)-1]), wide[len(b)-1]+1)
	other := bytes.Clone(bad)
	for range 2 {
		all := index.All(wide[:len(b)])
		place, is := index.Find(wide[:len(b)], ids[9])
		if len(all) != 300 || place != 9 || !is || !index.Right(wide[:len(b)]) || index.Right(bad) || index.Right(wide) {
			t.Fatal(len(all), place, is)
		}
		clear(all[:cap(all)])
	}
	if !bytes.Equal(wide, want) || !bytes.Equal(bad, other) {
		t.Fatal("the bytes")
	}
	all := index.All(wide[:len(b)])
	clear(wide)
	if all[0] != slices.Min(ids) {
		t.Error(all[0])
	}
	clear(b[:cap(b)])
	if again := put(t, ids); !bytes.Equal(again, want[:len(again)]) {
		t.Error("another one's bytes")
	}
}

// P3: a call hangs on no other one, ahead of it or beside it.
func TestAlone(t *testing.T) {
	var all sync.WaitGroup
	for n := range 8 {
		all.Go(func() {
			ids := numbered(fmt.Sprintf("%02x", 30*n), 20*n)
			want, _ := twinPut(ids)
			for range 10 {
				b, e := index.Put(ids)
				if !bytes.Equal(b, want) || e != api.OK || len(index.All(b)) != len(ids) {
					t.Error(n, e)
				}
				for place, id := range ids {
					if got, is := index.Find(b, id); got != place || !is {
						t.Error(n, place, got)
					}
				}
			}
		})
	}
	all.Wait()
}
