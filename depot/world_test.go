package depot_test

import (
	"crypto/sha256"
	"fmt"
	"slices"
	"strconv"
	"strings"
	"testing"

	"sacristy/api"
	"sacristy/delta"
	"sacristy/index"
	"sacristy/object"
	"sacristy/pack"
	"sacristy/shelf"
)

func blob(s string) api.Entry { return api.Entry{Kind: api.Blob, Data: s} }

func id(s string) string { return object.Id(api.Obj{Kind: api.Blob, Data: s}) }

// back is a delta of an entry that has the first text; on is one of the blob of it.
func back(n int, base, text string) api.Entry {
	return api.Entry{Kind: api.Back, Back: n, Data: delta.Make(base, text)}
}

func on(base, text string) api.Entry {
	return api.Entry{Kind: api.Base, Base: id(base), Data: delta.Make(base, text)}
}

// blobs are entries of blobs, one of each word.
func blobs(words string) []api.Entry {
	var l []api.Entry
	for _, w := range strings.Fields(words) {
		l = append(l, blob(w))
	}
	return l
}

// numbered are n blobs, none of them one of another first number.
func numbered(first, n int) []api.Entry {
	var l []api.Entry
	for i := range n {
		l = append(l, blob(strconv.Itoa(first+i)))
	}
	return l
}

// chain is a blob, and n deltas each on the one ahead of it.
func chain(n int) []api.Entry {
	l := []api.Entry{blob("0")}
	for i := range n {
		l = append(l, back(1, strconv.Itoa(i), strconv.Itoa(i+1)))
	}
	return l
}

// ids are the names of blobs of words, rising.
func ids(words string) []string {
	var l []string
	for _, w := range strings.Fields(words) {
		l = append(l, id(w))
	}
	slices.Sort(l)
	return slices.Compact(l)
}

// sealed are bytes, and their sum behind them.
func sealed(s string) []byte {
	sum := sha256.Sum256([]byte(s))
	return append([]byte(s), sum[:]...)
}

// indexOf is the index of blobs of words.
func indexOf(words string) []byte {
	var l []string
	for _, w := range strings.Fields(words) {
		l = append(l, id(w))
	}
	b, e := index.Put(l)
	if e != api.OK {
		panic(words)
	}
	return b
}

// lay puts bytes and an index on a shelf, by the name of the bytes.
func lay(s *shelf.Shelf, dir string, b, x []byte) string {
	name := nameOf(b)
	if s.Write(dir+"/"+name+".pack", b) != api.OK || s.Write(dir+"/"+name+".idx", x) != api.OK {
		panic(dir)
	}
	return name
}

// bytesOf are a pack's, however little can be resolved of it.
func bytesOf(l []api.Entry) []byte {
	b, e := pack.Put(l)
	if e != api.OK {
		panic(e)
	}
	return b
}

// save has a pack be there.
func save(t *testing.T, s *shelf.Shelf, dir string, l []api.Entry, save func(*shelf.Shelf, string, []api.Entry) (string, api.Errno)) string {
	t.Helper()
	name, e := save(s, dir, l)
	if e != api.OK {
		t.Fatal(e)
	}
	return name
}

// state is all that a shelf tells of itself.
func state(s *shelf.Shelf) string {
	var b strings.Builder
	for _, f := range s.Files() {
		fmt.Fprintf(&b, "%s=%s ", f.Path, nameOf(f.Data))
	}
	fmt.Fprint(&b, s.Used(), s.Acts(), s.Loose(), s.Down())
	return b.String()
}

// inDir are the names of a directory's files.
func inDir(s *shelf.Shelf, dir string) []string {
	var l []string
	for _, f := range s.Files() {
		if in, file, _ := strings.Cut(f.Path, "/"); in == dir {
			l = append(l, file)
		}
	}
	return l
}

// names are those of what is held; each is checked to be its object's.
func names(t *testing.T, l []api.Held) []string {
	t.Helper()
	var out []string
	for _, h := range l {
		if object.Id(h.Obj) != h.Id {
			t.Error("by another name", h)
		}
		out = append(out, h.Id)
	}
	return out
}
