package line_test

import (
	"bytes"
	"fmt"
	"math/rand"
	"slices"
	"strings"
	"sync"
	"testing"

	"sacristy/api"
	"sacristy/line"
)

// P15.1, O1
func TestPut(t *testing.T) {
	long := strings.Repeat("x", 4000)
	for i, c := range []struct {
		l    []api.Line
		b    string
		want api.Errno
	}{
		{nil, "", api.OK},
		{[]api.Line{}, "", api.OK},
		{[]api.Line{flush}, "0000", api.OK},
		{[]api.Line{flush, flush}, "00000000", api.OK},
		{[]api.Line{data("hi"), flush}, "0006hi0000", api.OK},
		{[]api.Line{data("a")}, "0005a", api.OK},
		{[]api.Line{data("\n")}, "0005\n", api.OK},
		{[]api.Line{data("\x00")}, "0005\x00", api.OK},
		{[]api.Line{data("\xff\xfe")}, "0006\xff\xfe", api.OK},
		{[]api.Line{data("é")}, "0006é", api.OK},
		{[]api.Line{data("0000")}, "00080000", api.OK},
		{[]api.Line{data(long[:5])}, "0009xxxxx", api.OK},
		{[]api.Line{data(long[:6])}, "000axxxxxx", api.OK},
		{[]api.Line{data(long[:11])}, "000f" + long[:11], api.OK},
		{[]api.Line{data(long[:12])}, "0010" + long[:12], api.OK},
		{[]api.Line{data(long[:3995])}, "0f9f" + long[:3995], api.OK},
		{[]api.Line{data(long[:3999])}, "0fa3" + long[:3999], api.OK},
		{[]api.Line{data(long)}, "0fa4" + long, api.OK},
		{[]api.Line{flush, data("b"), data("a"), flush, data("b")}, "00000005b0005a00000005b", api.OK},
		// What is no line, wherever it stands.
		{[]api.Line{{}}, "", api.ErrArg},
		{[]api.Line{data(long + "x")}, "", api.ErrArg},
		{[]api.Line{data(strings.Repeat("x", 1<<16))}, "", api.ErrArg},
		{[]api.Line{{Flush: true, Data: "x"}}, "", api.ErrArg},
		{[]api.Line{{Flush: true, Data: "\x00"}}, "", api.ErrArg},
		{[]api.Line{{Flush: true, Data: long}}, "", api.ErrArg},
		{[]api.Line{{Flush: true, Data: long + "x"}}, "", api.ErrArg},
		{[]api.Line{data("a"), flush, {}}, "", api.ErrArg},
		{[]api.Line{data("a"), {}, flush}, "", api.ErrArg},
		{[]api.Line{{}, data("a"), flush}, "", api.ErrArg},
		{[]api.Line{data("a"), flush, {Flush: true, Data: "x"}, flush}, "", api.ErrArg},
		{[]api.Line{data("a"), data(long + "x"), data("a")}, "", api.ErrArg},
	} {
		b, e := line.Put(c.l)
		if string(b) != c.b || e != c.want || e != api.OK && b != nil {
			t.Errorf("%d: %.20q %v", i, b, e)
		}
	}
}

// P15.1, P15.2: lines of each length.
func TestLengths(t *testing.T) {
	long := strings.Repeat("0123456789abcdef", 300)
	for n := range len(long) {
		l := []api.Line{data(long[:n]), data("x")}
		b, e := line.Put(l)
		if n == 0 || n > api.MaxLine {
			if len(b) != 0 || e != api.ErrArg {
				t.Fatal(n, e)
			}
			continue
		}
		if want := fmt.Sprintf("%04x%s0005x", n+4, long[:n]); string(b) != want || e != api.OK {
			t.Fatal(n, e)
		}
		checkBack(t, l)
		// A byte less is no whole line.
		if got, left, e := line.Cut(b[:n+3]); len(got) != 0 || !bytes.Equal(left, b[:n+3]) || e != api.OK {
			t.Fatal(n, len(got), e)
		}
	}
}

// P15.1, O2
func TestCut(t *testing.T) {
	long := strings.Repeat("x", 4000)
	for _, c := range []struct {
		b    string
		l    []api.Line
		left string
		want api.Errno
	}{
		{"", nil, "", api.OK},
		{"0000", []api.Line{flush}, "", api.OK},
		{"00000000", []api.Line{flush, flush}, "", api.OK},
		{"0006hi0000", []api.Line{data("hi"), flush}, "", api.OK},
		{"0005\x00", []api.Line{data("\x00")}, "", api.OK},
		{"0005\n0005\xff", []api.Line{data("\n"), data("\xff")}, "", api.OK},
		{"00080000", []api.Line{data("0000")}, "", api.OK},
		{"000a0005xx0005y", []api.Line{data("0005xx"), data("y")}, "", api.OK},
		{"000f" + long[:11] + "0010" + long[:12], []api.Line{data(long[:11]), data(long[:12])}, "", api.OK},
		{"0fa4" + long, []api.Line{data(long)}, "", api.OK},
		{"0fa4" + long + "0fa3" + long[1:], []api.Line{data(long), data(long[1:])}, "", api.OK},
		// Fewer than four bytes are left, whatever they are.
		{"0", nil, "0", api.OK},
		{"00", nil, "00", api.OK},
		{"000", nil, "000", api.OK},
		{"fff", nil, "fff", api.OK},
		{"zzz", nil, "zzz", api.OK},
		{"\x00", nil, "\x00", api.OK},
		{"\xff\xff\xff", nil, "\xff\xff\xff", api.OK},
		{"0000000", []api.Line{flush}, "000", api.OK},
		{"0000z", []api.Line{flush}, "z", api.OK},
		{"0005xzzz", []api.Line{data("x")}, "zzz", api.OK},
		{"0005x\n", []api.Line{data("x")}, "\n", api.OK},
		// What is left begins a line.
		{"0005", nil, "0005", api.OK},
		{"0006h", nil, "0006h", api.OK},
		{"00060000", []api.Line{data("00")}, "00", api.OK},
		{"0009zzzz", nil, "0009zzzz", api.OK},
		{"00090000", nil, "00090000", api.OK},
		{"000a00000", nil, "000a00000", api.OK},
		{"0006hi00000007a", []api.Line{data("hi"), flush}, "0007a", api.OK},
		{"0fa4", nil, "0fa4", api.OK},
		{"0fa4" + long[1:], nil, "0fa4" + long[1:], api.OK},
		{"0fa40000", nil, "0fa40000", api.OK},
		{"00000fa4" + long + "0fa4", []api.Line{flush, data(long)}, "0fa4", api.OK},
		// Nothing begins so.
		{"0001", nil, "", api.ErrCorrupt},
		{"0002", nil, "", api.ErrCorrupt},
		{"0003", nil, "", api.ErrCorrupt},
		{"0004", nil, "", api.ErrCorrupt},
		{"0004x", nil, "", api.ErrCorrupt},
		{"0fa5", nil, "", api.ErrCorrupt},
		{"0fa5" + long + "x", nil, "", api.ErrCorrupt},
		{"0fb0", nil, "", api.ErrCorrupt},
		{"0fff", nil, "", api.ErrCorrupt},
		{"1000", nil, "", api.ErrCorrupt},
		{"1005x", nil, "", api.ErrCorrupt},
		{"8000", nil, "", api.ErrCorrupt},
		{"ffff", nil, "", api.ErrCorrupt},
		{"000g", nil, "", api.ErrCorrupt},
		{"zzzz", nil, "", api.ErrCorrupt},
		{"\xff\xff\xff\xff", nil, "", api.ErrCorrupt},
		{"\x00\x00\x00\x00", nil, "", api.ErrCorrupt},
		{"000A", nil, "", api.ErrCorrupt},
		{"000F", nil, "", api.ErrCorrupt},
		{"0FA4" + long, nil, "", api.ErrCorrupt},
		{"00 5x", nil, "", api.ErrCorrupt},
		{"   5x", nil, "", api.ErrCorrupt},
		{"5   x", nil, "", api.ErrCorrupt},
		{"+005x", nil, "", api.ErrCorrupt},
		{"-005x", nil, "", api.ErrCorrupt},
		{"-000", nil, "", api.ErrCorrupt},
		{"0x05x", nil, "", api.ErrCorrupt},
		{"0_05x", nil, "", api.ErrCorrupt},
		{"5\nx\n", nil, "", api.ErrCorrupt},
		{"００", nil, "", api.ErrCorrupt},
		// Though lines are ahead of it.
		{"00000001", nil, "", api.ErrCorrupt},
		{"0005x000F", nil, "", api.ErrCorrupt},
		{"0005x0005y0004", nil, "", api.ErrCorrupt},
		{"0005x0000zzzz", nil, "", api.ErrCorrupt},
		{"0fa4" + long + "0fa5", nil, "", api.ErrCorrupt},
		{"0005xx0005y", nil, "", api.ErrCorrupt},
		{"0006x0005y", nil, "", api.ErrCorrupt},
	} {
		l, left, e := line.Cut([]byte(c.b))
		if !slices.Equal(l, c.l) || string(left) != c.left || e != c.want || e != api.OK && (l != nil || left != nil) {
			t.Errorf("%.20q: %v %.20q %v", c.b, l, left, e)
		}
		checkCut(t, c.b)
	}
}

// checkCut holds Cut against the twin, and tells its error.
func checkCut(t *testing.T, s string) api.Errno {
	t.Helper()
	l, left, e := line.Cut([]byte(s))
	wantLines, wantLeft, want := twinCut(s)
	if !slices.Equal(l, wantLines) || string(left) != wantLeft || e != want || e != api.OK && (l != nil || left != nil) {
		t.Fatalf("%.50q: %v %.50q %v, not %v %.50q %v", s, l, left, e, wantLines, wantLeft, want)
	}
	return e
}

// checkBack has lines put, and cut again.
func checkBack(t *testing.T, l []api.Line) []byte {
	t.Helper()
	b, e := line.Put(l)
	if want, err := twinPut(l); string(b) != want || e != err || e != api.OK {
		t.Fatalf("%v: %.50q %v", l, b, e)
	}
	again, left, e := line.Cut(b)
	if !slices.Equal(again, l) || len(left) != 0 || e != api.OK {
		t.Fatalf("%v: %v %.50q %v", l, again, left, e)
	}
	return b
}

// P15.1, O2: all numbers of four digits, great and small.
func TestNumbers(t *testing.T) {
	behind := strings.Repeat("0005x", 802)
	for n := range 1 << 16 {
		for _, form := range []string{"%04x", "%04X"} {
			s := fmt.Sprintf(form, n)
			is := strings.ToLower(s) == s && (n == 0 || 5 <= n && n <= 4004)
			if e := checkCut(t, s); (e == api.OK) != is {
				t.Fatal(s, e)
			}
			if n < 4100 || n%512 < 6 {
				checkCut(t, s+behind)
				checkCut(t, "0000"+s+behind[5:])
			}
		}
	}
}

// P15.1, O2: each byte at each place of a length.
func TestDigits(t *testing.T) {
	for _, digits := range []string{"0000", "0005", "000a", "0010", "0fa4", "0f00"} {
		for at := range digits {
			for c := range 256 {
				b := []byte(digits)
				b[at] = byte(c)
				e := checkCut(t, string(b))
				if is := strings.ContainsRune("0123456789abcdef", rune(c)); !is && e != api.ErrCorrupt {
					t.Errorf("%q: %v", b, e)
				}
				checkCut(t, string(b)+"x")
				checkCut(t, "0005x"+string(b))
				checkCut(t, string(b[:at+1]))
			}
		}
	}
}

// P15.1, O3
func TestParts(t *testing.T) {
	r := rand.New(rand.NewSource(1))
	for _, n := range []int{0, 1, 2, 4, 3999, 4000, 4001, 4004, 5000, 7999, 8000, 8001, 11999, 12000, 12001, 1 << 16, 1 << 18, 1<<18 + 1} {
		s := text(r, n)
		l := line.Parts([]byte(s))
		if len(l) != (n+3999)/4000+1 || l[len(l)-1] != flush {
			t.Fatal(n, len(l))
		}
		for i, part := range l[:len(l)-1] {
			if part != data(s[4000*i:min(4000*i+4000, n)]) {
				t.Fatal(n, i, len(part.Data))
			}
		}
	}
	if l := line.Parts(nil); len(l) != 1 || l[0] != flush {
		t.Error(l)
	}
}

// P15.3: of each length.
func TestPartsJoined(t *testing.T) {
	b := []byte(text(rand.New(rand.NewSource(2)), 12010))
	for n := range len(b) + 1 {
		l := line.Parts(b[:n])
		if !bytes.Equal(line.Join(l), b[:n]) {
			t.Fatal(n)
		}
		if n%100 < 2 {
			checkBack(t, l)
		}
	}
}

// P15.1, O3: whatever lines have, be they none.
func TestJoin(t *testing.T) {
	long := strings.Repeat("x", 5000)
	for i, c := range []struct {
		l    []api.Line
		want string
	}{
		{nil, ""},
		{[]api.Line{}, ""},
		{[]api.Line{flush}, ""},
		{[]api.Line{flush, flush}, ""},
		{[]api.Line{{}}, ""},
		{[]api.Line{data("a")}, "a"},
		{[]api.Line{data("a"), data("b")}, "ab"},
		{[]api.Line{data("b"), data("a"), data("b")}, "bab"},
		{[]api.Line{data("a"), flush, data("b"), flush}, "ab"},
		{[]api.Line{flush, data("\xff\n"), {}, data("\x00")}, "\xff\n\x00"},
		{[]api.Line{{Flush: true, Data: "x"}, data("y")}, "xy"},
		{[]api.Line{data(long), data("y"), data(long)}, long + "y" + long},
	} {
		if got := line.Join(c.l); string(got) != c.want {
			t.Errorf("%d: %.20q", i, got)
		}
	}
}

// P15.2: lines by chance, there and back; with one that is none, they have no bytes.
func TestByChance(t *testing.T) {
	r := rand.New(rand.NewSource(3))
	none := []api.Line{{}, {Flush: true, Data: "x"}, data(strings.Repeat("x", 4001)), {Flush: true, Data: "0000"}}
	for range 3000 {
		l := some(r)
		checkBack(t, l)
		l = slices.Insert(l, r.Intn(len(l)+1), none[r.Intn(len(none))])
		if b, e := line.Put(l); b != nil || e != api.ErrArg {
			t.Fatal(l, len(b), e)
		}
	}
}

// P15.1, O2: bytes that are nearly lines', against the twin.
func TestNearly(t *testing.T) {
	r := rand.New(rand.NewSource(4))
	met := map[api.Errno]int{}
	for range 30000 {
		s, _ := twinPut(some(r))
		for range 1 + r.Intn(3) {
			s = nearly(r, s)
		}
		met[checkCut(t, s)]++
	}
	if met[api.OK] < 5000 || met[api.ErrCorrupt] < 5000 {
		t.Error(met)
	}
}

// inPieces are the lines that are cut of bytes that come piece by piece, and what is left.
func inPieces(b []byte, ends ...int) ([]api.Line, []byte, api.Errno) {
	var l []api.Line
	var left []byte
	from := 0
	for _, end := range append(ends, len(b)) {
		more, behind, e := line.Cut(append(left, b[from:end]...))
		if e != api.OK {
			return nil, nil, e
		}
		l, left, from = append(l, more...), behind, end
	}
	return l, left, api.OK
}

// P15.2: bytes that come in pieces are cut as at once; right ones, and others.
func TestPieces(t *testing.T) {
	r := rand.New(rand.NewSource(5))
	for n := range 400 {
		s, _ := twinPut(some(r))
		if n%2 == 0 {
			s = nearly(r, s)
		}
		b := []byte(s)
		l, left, e := line.Cut(b)
		check := func(ends ...int) {
			t.Helper()
			again, rest, err := inPieces(b, ends...)
			if !slices.Equal(again, l) || !bytes.Equal(rest, left) || err != e {
				t.Fatalf("%.50q at %v: %v %.50q %v", s, ends, again, rest, err)
			}
		}
		for at := 0; at <= len(b); at += 1 + len(b)/300 {
			check(at)
			check(at, at+r.Intn(len(b)-at+1))
		}
		if len(b) < 300 {
			every := make([]int, len(b))
			for at := range every {
				every[at] = at
			}
			check(every...)
		}
	}
}

// P15.2: each place of a few lines, wherever the one of them that is wrong stands.
func TestPiecesKnown(t *testing.T) {
	for _, s := range []string{"0006hi0000", "0000", "0005x00000009zzzzz000", "000f0005x0005y00000000", "0005x000F", "0004", "zzzz0005x", "0006hi00zz"} {
		b := []byte(s)
		l, left, e := line.Cut(b)
		for at := range len(b) + 1 {
			for to := at; to <= len(b); to++ {
				again, rest, err := inPieces(b, at, to)
				if !slices.Equal(again, l) || !bytes.Equal(rest, left) || err != e {
					t.Errorf("%q at %d, %d: %v %q %v", s, at, to, again, rest, err)
				}
			}
		}
	}
}

// P1: many bytes end in good time.
func TestMany(t *testing.T) {
	const many = 1 << 21
	flushes := bytes.Repeat([]byte("0000"), many)
	l, left, e := line.Cut(flushes)
	if len(l) != many || len(left) != 0 || e != api.OK {
		t.Error(len(l), len(left), e)
	}
	if b, e := line.Put(l); !bytes.Equal(b, flushes) || e != api.OK {
		t.Error(len(b), e)
	}
	if l, left, e := line.Cut(append(flushes, "0001"...)); len(l) != 0 || len(left) != 0 || e != api.ErrCorrupt {
		t.Error(len(l), len(left), e)
	}
	if b, e := line.Put(append(l, api.Line{})); len(b) != 0 || e != api.ErrArg {
		t.Error(len(b), e)
	}
	if parts := line.Parts(flushes); len(parts) != 4*many/4000+2 || !bytes.Equal(line.Join(parts), flushes) {
		t.Error(len(parts))
	}
}

// P3: what is handed in stays as it is, its spare room too.
func TestHandedIn(t *testing.T) {
	l := []api.Line{data("a"), flush, data("bc"), data(strings.Repeat("x", 4000)), flush, {}, {Flush: true, Data: "x"}, data("d")}
	b := []byte("0005a0000" + "000000zzzz" + strings.Repeat("0006bc", 1000))
	lines, text := slices.Clone(l), bytes.Clone(b)
	for n := range len(l) + 1 {
		line.Put(l[:n])
		line.Join(l[:n])
	}
	for n := range len(b) + 1 {
		line.Cut(b[:n])
		line.Parts(b[:n])
	}
	if !slices.Equal(l, lines) || !bytes.Equal(b, text) {
		t.Error("changed")
	}
}

// P3: what comes out is nobody else's, its spare room too.
func TestComeOut(t *testing.T) {
	l := []api.Line{data("a"), flush, data("bc")}
	b := []byte("0005a00000006bc0009xyz")
	again, left, _ := line.Cut(b)
	parts := line.Parts(b)
	// What was handed in is changed behind the call.
	clear(b)
	if !slices.Equal(again, l) || string(left) != "0009xyz" || len(parts) != 2 || parts[0].Data != "0005a00000006bc0009xyz" {
		t.Fatal("kept", again, left, parts)
	}
	b = []byte("0005a00000006bc0009xyz")
	text := bytes.Clone(b)
	for range 2 {
		again, left, _ := line.Cut(b)
		clear(again[:cap(again)])
		if string(left) != "0009xyz" {
			t.Fatal("shared", left)
		}
		clear(left[:cap(left)])
		parts := line.Parts(b)
		clear(parts[:cap(parts)])
		put, _ := line.Put(l)
		clear(put[:cap(put)])
		joined := line.Join(l)
		clear(joined[:cap(joined)])
		if !bytes.Equal(b, text) || l[0] != data("a") || l[1] != flush || l[2] != data("bc") {
			t.Fatal("shared", b, l)
		}
	}
}

// P3: a call hangs on no other one, before it or beside it.
func TestAlone(t *testing.T) {
	var calls sync.WaitGroup
	for n := range 8 {
		calls.Go(func() {
			r := rand.New(rand.NewSource(int64(n)))
			for range 200 {
				l := some(r)
				b, e := line.Put(l)
				if want, err := twinPut(l); string(b) != want || e != err {
					t.Error(l)
				}
				s := nearly(r, string(b))
				l, left, e := line.Cut([]byte(s))
				if want, rest, err := twinCut(s); !slices.Equal(l, want) || string(left) != rest || e != err {
					t.Errorf("%.50q", s)
				}
				if !bytes.Equal(line.Join(line.Parts(b)), b) {
					t.Errorf("%.50q", b)
				}
			}
		})
	}
	calls.Wait()
}
