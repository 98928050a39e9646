package digest_test

import (
	"bytes"
	"crypto/sha256"
	"encoding/hex"
	"strings"
	"sync"
	"testing"

	"sacristy/digest"
)

// text has n bytes by a short rule, of all values.
func text(n int) []byte {
	b := make([]byte, n)
	x := uint32(n) + 1
	for i := range b {
		x = x*1664525 + 1013904223
		b[i] = byte(x >> 24)
	}
	return b
}

func TestSumKnown(t *testing.T) {
	for _, c := range []struct{ text, want string }{
		{"", "e3b0c44298fc1c149afbf4c8996fb92427ae41e4649b934ca495991b7852b855"},
		{"a", "ca978112ca1bbdcafac231b39a23dc4da786eff8147c4e72b9807785afee48bb"},
		{"abc", "ba7816bf8f01cfea414140de5dae2223b00361a396177a9cb410ff61f20015ad"},
		{"blob 0\n", "e769af2e03f5226ab4af05db1842e4ea0d40468fd5a5d6875aaf35529cc8809d"},
		{strings.Repeat("a", 1000000), "cdc76e5c9914fb9281a1c7e284d73e67f1809a48a497200e046d39ccc7112cd0"},
	} {
		sum := digest.Sum([]byte(c.text))
		if hex.EncodeToString(sum[:]) != c.want || digest.Name([]byte(c.text)) != c.want {
			t.Error(len(c.text), hex.EncodeToString(sum[:]), digest.Name([]byte(c.text)))
		}
	}
	if digest.Sum(nil) != digest.Sum([]byte{}) || digest.Name(nil) != digest.Name([]byte{}) {
		t.Error("nil and empty are alike")
	}
}

// Each length up to some blocks, so that what is put behind the text begins at each place of a block.
func TestSumLengths(t *testing.T) {
	for n := range 520 {
		for _, b := range [][]byte{make([]byte, n), bytes.Repeat([]byte{255}, n), text(n)} {
			check(t, b)
		}
	}
	for _, n := range []int{4095, 4096, 1<<16 - 9, 1<<16 - 8, 1 << 16, 1<<18 + 1} {
		check(t, text(n))
	}
}

func check(t *testing.T, b []byte) {
	t.Helper()
	want := sha256.Sum256(b)
	if got := digest.Sum(b); got != want {
		t.Errorf("Sum of %d bytes: %x, not %x", len(b), got, want)
	}
	name := digest.Name(b)
	if name != hex.EncodeToString(want[:]) {
		t.Errorf("Name of %d bytes: %s, not %x", len(b), name, want)
	}
	if !digest.Named(name) {
		t.Errorf("Named denies %s", name)
	}
}

func TestNamed(t *testing.T) {
	zeros := strings.Repeat("0", 64)
	for _, c := range []struct {
		text string
		want bool
	}{
		{zeros, true},
		{strings.Repeat("f", 64), true},
		{strings.Repeat("0123456789abcdef", 4), true},
		{"", false},
		{"0", false},
		{zeros[1:], false},
		{zeros + "0", false},
		{zeros + zeros, false},
		{zeros[:32], false},
		{strings.Repeat("F", 64), false},
		{strings.Repeat("é", 32), false},
		{strings.Repeat("0", 62) + "é", false},
		{strings.Repeat("０", 64), false},
		{zeros[1:] + "\n", false},
		{"0x" + zeros[2:], false},
		{" " + zeros, false},
	} {
		if digest.Named(c.text) != c.want {
			t.Errorf("%q: not %v", c.text, c.want)
		}
	}
}

// Each byte at each place.
func TestNamedBytes(t *testing.T) {
	name := []byte(digest.Name([]byte("abc")))
	for at := range name {
		b := bytes.Clone(name)
		for c := range 256 {
			b[at] = byte(c)
			want := c < 128 && strings.ContainsRune("0123456789abcdef", rune(c))
			if digest.Named(string(b)) != want {
				t.Fatalf("byte %d at %d: not %v", c, at, want)
			}
		}
	}
}

// What is handed in stays, and so does its room behind the end.
func TestHandedIn(t *testing.T) {
	for n := range 200 {
		room := bytes.Repeat([]byte{7}, 400)
		copy(room, text(n))
		want := bytes.Clone(room)
		first, name := digest.Sum(room[:n]), digest.Name(room[:n])
		if !bytes.Equal(room, want) {
			t.Fatal(n)
		}
		room[0]++
		if n > 0 && (digest.Sum(room[:n]) == first || digest.Name(room[:n]) == name) {
			t.Fatal("another text has the sum", n)
		}
	}
}

// A call hangs on no other one, before it or beside it.
func TestAlone(t *testing.T) {
	var all sync.WaitGroup
	for n := range 8 {
		all.Go(func() {
			b := text(n * 50)
			for range 20 {
				if digest.Sum(b) != sha256.Sum256(b) {
					t.Error(n)
				}
			}
		})
	}
	all.Wait()
}
