package num_test

import (
	"bytes"
	"encoding/binary"
	"math"
	"slices"
	"strconv"
	"strings"
	"testing"

	"sacristy/num"
)

const most = 1 << 40

// others are numbers that are not put.
var others = []int{-1, -2, -127, -128, -300, -most, math.MinInt32, math.MinInt, math.MinInt + 1,
	most + 1, most + 2, 1<<41 - 1, 1 << 41, 1<<42 - 1, 1 << 42, 1<<42 + 300, 1 << 49, 1 << 56, math.MaxInt - 1, math.MaxInt}

// numbers are all small ones, those around each power of two and of ten, and some by a short rule.
func numbers() []int {
	var l []int
	for n := range 1<<15 + 2 {
		l = append(l, n)
	}
	around := func(n int) {
		for m := n - 2; m <= min(n+2, most); m++ {
			l = append(l, m)
		}
	}
	for k := 16; k <= 40; k++ {
		around(1 << k)
		around(1<<k - 1<<14)
	}
	for n := 100000; n < most; n *= 10 {
		around(n)
	}
	x := uint64(1)
	for range 20000 {
		x = x*6364136223846793005 + 1442695040888963407
		l = append(l, int(x>>23%(most+1)))
	}
	slices.Sort(l)
	return slices.Compact(l)
}

// P3.1, C1
func TestPutKnown(t *testing.T) {
	for _, c := range []struct {
		n    int
		want []byte
	}{
		{0, []byte{0}},
		{1, []byte{1}},
		{127, []byte{127}},
		{128, []byte{128, 1}},
		{129, []byte{129, 1}},
		{255, []byte{255, 1}},
		{256, []byte{128, 2}},
		{300, []byte{172, 2}},
		{1<<14 - 1, []byte{255, 127}},
		{1 << 14, []byte{128, 128, 1}},
		{1<<14 + 128, []byte{128, 129, 1}},
		{1<<21 - 1, []byte{255, 255, 127}},
		{1 << 21, []byte{128, 128, 128, 1}},
		{1<<28 - 1, []byte{255, 255, 255, 127}},
		{1 << 28, []byte{128, 128, 128, 128, 1}},
		{1<<31 - 1, []byte{255, 255, 255, 255, 7}},
		{1 << 32, []byte{128, 128, 128, 128, 16}},
		{1<<35 - 1, []byte{255, 255, 255, 255, 127}},
		{1 << 35, []byte{128, 128, 128, 128, 128, 1}},
		{most - 1, []byte{255, 255, 255, 255, 255, 31}},
		{most, []byte{128, 128, 128, 128, 128, 32}},
	} {
		if got := num.Put(c.n); !bytes.Equal(got, c.want) {
			t.Errorf("Put of %d: %v, not %v", c.n, got, c.want)
		}
		checkGet(t, c.want)
		if n, k, is := num.Get(c.want); n != c.n || k != len(c.want) || !is {
			t.Errorf("Get of %v: %d %d %v", c.want, n, k, is)
		}
	}
}

// P3.1, C1
func TestPutNothing(t *testing.T) {
	for _, n := range others {
		if b := num.Put(n); len(b) != 0 {
			t.Errorf("Put of %d: %v", n, b)
		}
	}
}

// P3.2
func TestPutAndGet(t *testing.T) {
	for _, n := range numbers() {
		b := num.Put(n)
		if want := binary.AppendUvarint(nil, uint64(n)); !bytes.Equal(b, want) {
			t.Fatalf("Put of %d: %v, not %v", n, b, want)
		}
		for _, behind := range [][]byte{nil, {0}, {1}, {127}, {128}, {255}, b, make([]byte, 100), bytes.Repeat([]byte{255}, 100)} {
			m, k, is := num.Get(slices.Concat(b, behind))
			if m != n || k != len(b) || !is {
				t.Fatalf("Get of %v and %v: %d %d %v", b, behind, m, k, is)
			}
		}
	}
}

// twin is Get by the library's numbers, which have the same digits, but may be longer than they need, and greater.
func twin(b []byte) (int, int, bool) {
	n, k := binary.Uvarint(b)
	if k <= 0 || n > most || k != len(binary.AppendUvarint(nil, n)) {
		return 0, 0, false
	}
	return int(n), k, true
}

func checkGet(t *testing.T, b []byte) {
	t.Helper()
	n, k, is := num.Get(b)
	m, j, was := twin(b)
	if n != m || k != j || is != was {
		t.Fatalf("Get of %v: %d %d %v, not %d %d %v", b, n, k, is, m, j, was)
	}
	if is && !bytes.Equal(num.Put(n), b[:k]) {
		t.Fatalf("Put of %d: %v, not %v", n, num.Put(n), b[:k])
	}
}

// P3.1, P3.2: all texts of up to two bytes, and longer ones of bytes that are edges.
func TestGetAll(t *testing.T) {
	checkGet(t, nil)
	checkGet(t, []byte{})
	for x := range 256 {
		checkGet(t, []byte{byte(x)})
		for y := range 256 {
			checkGet(t, []byte{byte(x), byte(y)})
			checkGet(t, []byte{255, 128, byte(x), byte(y)})
			checkGet(t, []byte{129, 255, 128, 128, byte(x), byte(y)})
			checkGet(t, []byte{128, 128, 128, 128, byte(x), byte(y)})
			checkGet(t, []byte{128, 128, 128, 128, 128, byte(x), byte(y)})
		}
	}
	edges := []byte{0, 1, 31, 32, 33, 127, 128, 255}
	b := make([]byte, 7)
	for i := range 1 << 21 {
		for at := range b {
			b[at] = edges[i>>(3*at)%8]
		}
		checkGet(t, b)
	}
}

// P3.1, C1
func TestGetNone(t *testing.T) {
	for _, b := range [][]byte{
		nil,
		{},
		{128},
		{255},
		{172},
		{128, 0},
		{129, 0},
		{255, 0},
		{172, 2 + 128},
		{172, 130, 0},
		{128, 128},
		{128, 128, 0},
		{128, 128, 0, 1},
		{128, 128, 128, 128, 128},
		{128, 128, 128, 128, 128, 0},
		{129, 128, 128, 128, 128, 32},
		{128, 128, 128, 128, 128, 33},
		{128, 128, 128, 128, 128, 64},
		{255, 255, 255, 255, 255, 127},
		{255, 255, 255, 255, 255, 32},
		{128, 128, 128, 128, 128, 160},
		{128, 128, 128, 128, 128, 160, 0},
		{128, 128, 128, 128, 128, 128, 1},
		{129, 128, 128, 128, 128, 128, 0},
		// what is behind 64 bits would be lost
		{129, 128, 128, 128, 128, 128, 128, 128, 128, 2},
		{255, 255, 255, 255, 255, 255, 255, 255, 255, 1},
		{129, 128, 128, 128, 128, 128, 128, 128, 128, 128, 1},
		bytes.Repeat([]byte{128}, 10),
		bytes.Repeat([]byte{255}, 1000),
		append(bytes.Repeat([]byte{128}, 1000), 1),
	} {
		if n, k, is := num.Get(b); n != 0 || k != 0 || is {
			t.Errorf("Get of %v: %d %d %v", b, n, k, is)
		}
	}
}

// P3.2, P3.3: bytes that are cut are no number's.
func TestGetCut(t *testing.T) {
	for _, n := range numbers() {
		b := num.Put(n)
		for end := range b {
			// Behind the end stands the rest, which is not handed in.
			if m, k, is := num.Get(b[:end]); m != 0 || k != 0 || is {
				t.Fatalf("Get of %v: %d %d %v", b[:end], m, k, is)
			}
		}
	}
}

// P3.3: bytes that others begin with would stand next to one of these, when all are sorted.
func TestNoneBeginsWithAnother(t *testing.T) {
	var l []string
	for _, n := range numbers() {
		l = append(l, string(num.Put(n)))
	}
	slices.Sort(l)
	for i := range len(l) - 1 {
		if strings.HasPrefix(l[i+1], l[i]) {
			t.Errorf("%q begins with %q", l[i+1], l[i])
		}
	}
}

// P3.2: many numbers in a row are read as they were put.
func TestRow(t *testing.T) {
	l := numbers()
	var b []byte
	for _, n := range l {
		b = append(b, num.Put(n)...)
	}
	for _, want := range l {
		n, k, is := num.Get(b)
		if n != want || !is {
			t.Fatalf("%d %v, not %d", n, is, want)
		}
		b = b[k:]
	}
	if len(b) != 0 {
		t.Error(len(b), "bytes are left")
	}
}

// P3.1, C2
func TestTextKnown(t *testing.T) {
	for n, want := range map[int]string{
		0:             "0",
		1:             "1",
		9:             "9",
		10:            "10",
		99:            "99",
		100:           "100",
		300:           "300",
		1000000:       "1000000",
		1<<31 - 1:     "2147483647",
		1 << 32:       "4294967296",
		most - 1:      "1099511627775",
		most:          "1099511627776",
		most + 1:      "1099511627777",
		math.MaxInt:   "9223372036854775807",
		-1:            "",
		-10:           "",
		-most:         "",
		math.MinInt:   "",
		math.MinInt32: "",
	} {
		if got := num.Text(n); got != want {
			t.Errorf("Text of %d: %q, not %q", n, got, want)
		}
	}
}

// digits is Text by one digit behind the other.
func digits(n int) string {
	if n < 10 {
		return string(rune('0' + n))
	}
	return digits(n/10) + string(rune('0'+n%10))
}

// P3.2
func TestTextAndDecimal(t *testing.T) {
	for _, n := range numbers() {
		s := num.Text(n)
		if s != digits(n) {
			t.Fatalf("Text of %d: %q", n, s)
		}
		if m, is := num.Decimal(s); m != n || !is {
			t.Fatalf("Decimal of %q: %d %v", s, m, is)
		}
		for _, not := range []string{"0" + s, "+" + s, "-" + s, " " + s, s + " ", s + "\n", s + "\x00", s + ".", s + "_", "0x" + s} {
			checkNone(t, not)
		}
	}
}

func checkNone(t *testing.T, s string) {
	t.Helper()
	if n, is := num.Decimal(s); n != 0 || is {
		t.Errorf("Decimal of %q: %d %v", s, n, is)
	}
}

// P3.1, C2
func TestDecimalNone(t *testing.T) {
	for _, s := range []string{
		"", " ", "+", "-", "_", ".", "\n", "\x00",
		"00", "000", "01", "007", "0300", "01099511627776",
		"+0", "-0", "+1", "-1", "--1", "+-1", "-1099511627776", "-9223372036854775808",
		" 1", "1 ", "1\n", "\t1", "1\r\n", "1\x00", "\x001", "1 2",
		"1_0", "_1", "1_", "1_000", "1,000", "1.0", "1.", ".1", "1e3", "1E3", "0x1", "0b1", "0o7", "1f", "a", "ff", "inf", "nil",
		"１", "٣", "1٣", "é", "\xff", "1\xff", "½", "²",
		"1099511627777", "1099511627780", "1099511628000", "2099511627776", "9999999999999", "10995116277760", "99999999999999",
		"9223372036854775807", "9223372036854775808", "18446744073709551615", "18446744073709551616", "18446744073709551617",
		"18446744073709551916", "340282366920938463463374607431768211456",
		strings.Repeat("0", 10000), strings.Repeat("0", 10000) + "1", strings.Repeat("9", 10000), "1" + strings.Repeat("0", 10000),
	} {
		checkNone(t, s)
	}
	for _, n := range others {
		checkNone(t, strconv.Itoa(n))
	}
}

// P3.1, C2: each byte at each place.
func TestDecimalBytes(t *testing.T) {
	for _, text := range []string{"1", "30", "107", "1000000000000"} {
		b := []byte(text)
		for at := range b {
			for c := range 256 {
				b[at] = byte(c)
				s := string(b)
				n, is := num.Decimal(s)
				want := '0' <= c && c <= '9' && (at > 0 || c > '0' || len(b) == 1)
				want = want && (len(b) < 13 || s <= "1099511627776")
				if is != want || is && digits(n) != s || !is && n != 0 {
					t.Fatalf("Decimal of %q: %d %v", s, n, is)
				}
			}
			b[at] = text[at]
		}
	}
}

// P3 of DOC.md: what is handed in stays, and so does its room behind the end.
func TestHandedIn(t *testing.T) {
	for _, n := range []int{0, 127, 300, 1 << 20, most} {
		room := append(num.Put(n), 7, 128, 128, 0)
		want := bytes.Clone(room)
		for end := range len(room) + 1 {
			num.Get(room[:end])
		}
		if !bytes.Equal(room, want) {
			t.Errorf("%v, not %v", room, want)
		}
	}
}

// P3 of DOC.md: what comes out is new, and so is its spare room.
func TestHandedOut(t *testing.T) {
	for _, n := range []int{0, 1, 127, 128, 300, 1 << 20, most} {
		first, second := num.Put(n), num.Put(n)
		want := bytes.Clone(second)
		room := first[:cap(first)]
		for i := range room {
			room[i] = 99
		}
		if !bytes.Equal(second, want) || !bytes.Equal(num.Put(n), want) {
			t.Errorf("Put of %d: its bytes are another one's too", n)
		}
	}
}
