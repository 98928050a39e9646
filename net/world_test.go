package net_test

import (
	"crypto/sha256"
	"fmt"
	"slices"
	"strings"
	"testing"

	"sacristy/api"
	"sacristy/delta"
	"sacristy/net"
	"sacristy/object"
	"sacristy/pack"
	"sacristy/root"
	"sacristy/shelf"
	"sacristy/walk"
)

const room = 1 << 24

func blob(s string) api.Obj { return api.Obj{Kind: api.Blob, Data: s} }

func id(o api.Obj) string { return object.Id(o) }

func ids(l ...api.Obj) []string {
	var out []string
	for _, o := range l {
		out = append(out, id(o))
	}
	slices.Sort(out)
	return slices.Compact(out)
}

// tree has a row of files and trees, which are called a, b, c and so on.
func tree(l ...api.Obj) api.Obj {
	var items []api.Item
	for i, o := range l {
		mode := api.Plain
		if o.Kind == api.Tree {
			mode = api.Dir
		}
		items = append(items, api.Item{Mode: mode, Name: string([]byte{'a' + byte(i)}), Id: id(o)})
	}
	return right(api.Tree)(object.PutTree(items))
}

func commit(of api.Obj, text string, parents ...api.Obj) api.Obj {
	c := api.Change{Tree: id(of), Who: "me", Text: text}
	for _, p := range parents {
		c.Parents = append(c.Parents, id(p))
	}
	return right(api.Commit)(object.PutChange(c))
}

func tag(o api.Obj) api.Obj {
	return right(api.Tag)(object.PutLabel(api.Label{Id: id(o), Kind: o.Kind, Name: "v"}))
}

func right(kind int) func(string, bool) api.Obj {
	return func(s string, is bool) api.Obj {
		if !is {
			panic(kind)
		}
		return api.Obj{Kind: kind, Data: s}
	}
}

// blobs are of words, one each.
func blobs(words string) []api.Obj {
	var l []api.Obj
	for _, w := range strings.Fields(words) {
		l = append(l, blob(w))
	}
	return l
}

// numbered are n blobs, none of them one of another first number.
func numbered(first, n int) []api.Obj {
	var l []api.Obj
	for i := range n {
		l = append(l, blob(fmt.Sprint(first+i)))
	}
	return l
}

// of is a pack's bytes, of whole entries.
func of(l ...api.Obj) []byte {
	var entries []api.Entry
	for _, o := range l {
		entries = append(entries, api.Entry{Kind: o.Kind, Data: o.Data})
	}
	return bytesOf(entries...)
}

func bytesOf(l ...api.Entry) []byte {
	b, e := pack.Put(l)
	if e != api.OK {
		panic(e)
	}
	return b
}

// on is an entry of an object as a delta of another one.
func on(base, o api.Obj) api.Entry {
	return api.Entry{Kind: api.Base, Base: id(base), Data: delta.Make(base.Data, o.Data)}
}

// to has a ref that is not there be an object's; from has one go.
func to(name string, o api.Obj) api.Update { return api.Update{Name: name, New: id(o)} }

func from(name string, o api.Obj) api.Update { return api.Update{Name: name, Old: id(o)} }

func move(name string, old, o api.Obj) api.Update {
	return api.Update{Name: name, Old: id(old), New: id(o)}
}

func updates(l ...api.Update) []api.Update { return l }

// pin is a ref of each of some objects.
func pin(l ...api.Obj) []api.Update {
	var u []api.Update
	for _, o := range l {
		u = append(u, to("tags/"+id(o)[:8], o))
	}
	return u
}

// fresh is a net without forks.
func fresh(t *testing.T) (*shelf.Shelf, *net.Net) {
	t.Helper()
	s := shelf.New(room)
	ok(t, net.Init(s))
	return s, open(t, s)
}

func open(t *testing.T, s *shelf.Shelf) *net.Net {
	t.Helper()
	n, e := net.Open(s)
	ok(t, e)
	return n
}

func ok(t *testing.T, e api.Errno) {
	t.Helper()
	if e != api.OK {
		t.Fatal(e)
	}
}

// push pushes, and has to.
func push(t *testing.T, n *net.Net, name string, u []api.Update, b []byte) {
	t.Helper()
	if e, at := n.Push(name, u, b); e != api.OK || at != 0 {
		t.Fatal(name, e, at)
	}
}

// has checks what a fork has.
func has(t *testing.T, n *net.Net, name string, l ...api.Obj) {
	t.Helper()
	got, e := n.Held(name)
	if e != api.OK || !slices.Equal(got, walk.Set(l)) {
		t.Errorf("%s has %d, not %d: %v", name, len(got), len(l), e)
	}
}

// pooled checks what the pool has.
func pooled(t *testing.T, n *net.Net, l ...api.Obj) {
	t.Helper()
	if got := n.Pool(); !slices.Equal(got, walk.Set(l)) {
		t.Errorf("the pool has %d, not %d", len(got), len(l))
	}
}

// fork is one of a net, by its name.
func fork(t *testing.T, n *net.Net, name string) api.Fork {
	t.Helper()
	r := n.Root()
	i := root.Find(r, name)
	if i < 0 {
		t.Fatal("no fork", name)
	}
	return r.Forks[i]
}

// entriesOf are those of a pack that stands on a shelf.
func entriesOf(t *testing.T, s *shelf.Shelf, dir, name string) []api.Entry {
	t.Helper()
	b, e := s.Read(dir + "/" + name + ".pack")
	ok(t, e)
	l, e := pack.Get(b)
	ok(t, e)
	return l
}

// lines are a root's, as one text; two roots that are alike have one.
func lines(r api.Root) string {
	b, is := root.Put(r)
	if !is {
		panic(r.Count)
	}
	return string(b)
}

// whole is all that a net tells of itself.
func whole(t *testing.T, n *net.Net) string {
	t.Helper()
	var b strings.Builder
	b.WriteString(lines(n.Root()))
	tell := func(l []api.Held) {
		for _, h := range l {
			if id(h.Obj) != h.Id {
				t.Error("by another name", h)
			}
			b.WriteString(h.Id[:8] + " ")
		}
	}
	tell(n.Pool())
	for _, f := range n.Root().Forks {
		l, e := n.Held(f.Name)
		ok(t, e)
		b.WriteString("\n" + f.Name + ": ")
		tell(l)
	}
	return b.String()
}

// state is all that a shelf tells of itself.
func state(s *shelf.Shelf) string {
	var b strings.Builder
	for _, f := range s.Files() {
		fmt.Fprintf(&b, "%s=%x\n", f.Path, sha256.Sum256(f.Data))
	}
	fmt.Fprint(&b, s.Used(), s.Acts(), s.Loose(), s.Down())
	return b.String()
}

// files are all paths that a root needs, and no others.
func files(r api.Root) []string {
	l := []string{"net/root"}
	need := func(dir string, names []string) {
		for _, name := range names {
			l = append(l, dir+"/"+name+".idx", dir+"/"+name+".pack")
		}
	}
	need("pool", r.Pool)
	for _, f := range r.Forks {
		need("own", f.Packs)
	}
	slices.Sort(l)
	return slices.Compact(l)
}

// paths are those of a shelf's files.
func paths(s *shelf.Shelf) []string {
	var l []string
	for _, f := range s.Files() {
		l = append(l, f.Path)
	}
	return l
}

// clone is a shelf with the files of another one, all synced.
func clone(s *shelf.Shelf) *shelf.Shelf { return shelf.Of(room, s.Files()) }
